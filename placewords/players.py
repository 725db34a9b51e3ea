"""Queues of letters at the places, and players that let ready letters happen."""

from placewords.errors import NotReady
from placewords.forms import moved_heads, ready_letters, taken_letters
from placewords.machines import states_behind
from placewords.words import place_words


def queues_of(alphabet, word):
    """Return the list of the words of all places."""
    return place_words(alphabet, word)


def word_of(alphabet, queues):
    """Return the least word with these queues, or None if they are not whole."""
    word = taken_letters(alphabet, queues)
    if queues_of(alphabet, word) != [tuple(queue) for queue in queues]:
        return None
    return word


class Player:
    """Lets letters of queues happen while the machines at the places meet."""

    def __init__(self, alphabet, machines, queues):
        self.alphabet = alphabet
        self.machines = machines
        self.queues = tuple([tuple(queue) for queue in queues])
        self.heads = tuple([0] * alphabet.places)
        self.held = machines.start()
        self.taken = ()

    def ready(self):
        """Return the list of the ready letters in ascending order."""
        return ready_letters(self.alphabet, self.queues, self.heads)

    def happen(self, letter):
        """Let a letter happen; raise NotReady if it is not ready."""
        if letter not in self.ready():
            raise NotReady("the letter is not next in the queue of each of its places")
        self.held = states_behind(self.machines, self.alphabet, self.held, letter)
        self.heads = moved_heads(self.alphabet, self.heads, letter)
        self.taken = (*self.taken, letter)

    def is_done(self):
        """Tell whether all queues are empty."""
        return list(self.heads) == [len(queue) for queue in self.queues]

    def is_stuck(self):
        """Tell whether some queue is not empty and no letter is ready."""
        return not self.is_done() and len(self.ready()) == 0

    def accepts(self):
        """Tell whether the automaton of the machines accepts the word that has happened."""
        return self.machines.accepts(self.held)

    def happened(self):
        """Return the list of the letters that have happened, in order."""
        return list(self.taken)
