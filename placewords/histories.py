"""Histories of events that can be undone."""

from placewords.errors import NotReady
from placewords.events import events_above
from placewords.forms import least_form


class History:
    """The pairs of the number and the letter of all events that are not undone, and how many
    events have happened."""

    def __init__(self, alphabet):
        self.alphabet = alphabet
        self.left = ()
        self.many = 0

    def happen(self, letter):
        """Let a letter happen and return the number of the new event."""
        self.left = (*self.left, (self.many, letter))
        self.many += 1
        return self.many - 1

    def undo(self, number):
        """Undo an event; raise NotReady if it is not there any more, or another one rests on it."""
        if self.must_undo(number) != [number]:
            raise NotReady("the event cannot be undone at this moment")
        self.left = tuple([pair for pair in self.left if pair[0] != number])

    def must_undo(self, number):
        """Return the list of the events that must be undone for an event: itself and all that rest
        on it. It is empty if the event is not there, or is undone."""
        numbers = [own for own, _ in self.left]
        if number not in numbers:
            return []
        above = events_above(self.alphabet, self._letters(), numbers.index(number))
        return [numbers[event] for event in above]

    def events(self):
        """Return the list of the pairs of number and letter of all events that are not undone."""
        return list(self.left)

    def word(self):
        """Return the least form of the word of these events."""
        return least_form(self.alphabet, self._letters())

    def _letters(self):
        return [letter for _, letter in self.left]
