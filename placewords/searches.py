"""Choices while a word of a product or of a repetition is read letter by letter.

A choice tells to which part each letter that came belongs, as far as it matters from there on. A
number tells with its bits which letters are barred from a part: those that depend on a letter of a
part behind it that came already. Of two choices that differ only in the letters that are barred,
the one with more of them allows nothing that the other one does not allow, and is dropped;
otherwise there would be far too many of them."""

from placewords.alphabets import independent
from placewords.bits import mask_of
from placewords.remainders import Remainders


def _dependent_masks(alphabet):
    # For each letter the number whose bits are set for all letters that depend on it.
    many = len(alphabet.letters)
    return [
        mask_of([other for other in range(many) if not independent(alphabet, letter, other)])
        for letter in range(many)
    ]


class CutSearch:
    """The choices for a product: tuples (state, state, barred). The states are those of both
    automata behind the letters that belong to the first and to the second word; barred are
    letters that cannot belong to the first word any more."""

    def __init__(self, alphabet, first, second):
        self.masks = _dependent_masks(alphabet)
        self.first = first
        self.second = second
        self.first_rest = Remainders(first)
        self.second_rest = Remainders(second)

    def first_choices(self):
        """Return the choices at the beginning."""
        return self._kept([(self.first.start, self.second.start, 0)])

    def next_choices(self, choices, letter):
        """Return the choices behind one more letter."""
        found = []
        for one, other, barred in choices:
            if barred & (1 << letter) == 0:
                found.append((self.first.rows[one][letter], other, barred))
            found.append((one, self.second.rows[other][letter], barred | self.masks[letter]))
        return self._kept(found)

    def is_end(self, choices):
        """Tell whether a word of the set may end here."""
        for one, other, _ in choices:
            if one in self.first.finals and other in self.second.finals:
                return True
        return False

    def _kept(self, choices):
        groups = {}
        for old_one, old_other, barred in sorted(choices, key=lambda choice: choice[2]):
            one = self.first_rest.states(barred)[old_one]
            other = self.second_rest.states(0)[old_other]
            if one >= 0 and other >= 0:
                masks = groups.setdefault((one, other), [])
                if all([mask & barred != mask for mask in masks]):
                    masks.append(barred)
        return tuple(sorted([(*pair, mask) for pair, masks in groups.items() for mask in masks]))


class RepeatSearch:
    """The choices for a repetition: tuples with an item (state, barred, all) for each word that is
    begun and not ended, in the order of these words. The state is that behind the letters of this
    word, barred are letters that cannot belong to it any more, and all are these and the letters
    that depend on its own letters: what is barred from a new word ahead of it.

    All words are connected. So each word that is begun and not ended has a place with a letter
    that came and a letter that will come, and no other such word has letters of both kinds there:
    there are never more of these words than places. Words that are ended are not kept: a new word
    that stands ahead of such a word, and begins behind its end, can as well stand behind it."""

    def __init__(self, alphabet, automaton):
        self.masks = _dependent_masks(alphabet)
        self.most = alphabet.places
        self.automaton = automaton
        self.rest = Remainders(automaton)

    def first_choices(self):
        """Return the choices at the beginning."""
        return ((),)

    def next_choices(self, choices, letter):
        """Return the choices behind one more letter."""
        found = {}
        for choice in choices:
            for at in range(len(choice) + 1):
                barred = choice[at][2] if at < len(choice) else 0
                item = (self.automaton.start, barred, barred)
                self._take(found, choice[:at], item, choice[at:], letter)
            for at in range(len(choice)):
                self._take(found, choice[:at], choice[at], choice[at + 1:], letter)
        return _least_choices(sorted(found))

    def is_end(self, choices):
        """Tell whether a word of the set may end here."""
        return () in choices

    def _take(self, found, before, item, behind, letter):
        # The letter belongs to the word of the item, which may end with it or go on.
        state, barred, reached = item
        ahead = self._ahead(before, letter)
        if barred & (1 << letter) != 0 or ahead is None:
            return
        target = self.automaton.rows[state][letter]
        if target in self.automaton.finals:
            found[ahead + behind] = True
        longer = self.rest.longer_states(barred)[target]
        if longer >= 0 and len(before) + len(behind) < self.most:
            found[ahead + ((longer, barred, reached | self.masks[letter]),) + behind] = True

    def _ahead(self, items, letter):
        # The items of the words ahead of that of the letter, None if one of them cannot end.
        mask = self.masks[letter]
        found = []
        for old, barred, reached in items:
            state = self.rest.longer_states(barred | mask)[old]
            if state < 0:
                return None
            found.append((state, barred | mask, reached | mask))
        return tuple(found)


def _least_choices(choices):
    groups = {}
    for choice in choices:
        kept = groups.setdefault(tuple([state for state, _, _ in choice]), [])
        if not any([_has_no_more(other, choice) for other in kept]):
            kept.append(choice)
    return tuple([choice for kept in groups.values() for choice in kept])


def _has_no_more(one, other):
    # Both have the same states; no letter is barred in the first one and not in the other one.
    for index in range(len(one)):
        if one[index][1] & other[index][1] != one[index][1]:
            return False
        if one[index][2] & other[index][2] != one[index][2]:
            return False
    return True
