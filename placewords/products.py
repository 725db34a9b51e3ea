"""Products and repetitions of closed sets, and words that are not connected."""

from placewords.alphabets import is_connected
from placewords.automata import final_marks, least
from placewords.bits import bits_of
from placewords.closure import is_closed
from placewords.errors import NotClosed, NotConnected
from placewords.paths import first_word
from placewords.searches import CutSearch, RepeatSearch
from placewords.subsets import searched


def product(alphabet, first, second):
    """Return the least automaton of the product of two closed sets."""
    if not is_closed(alphabet, first) or not is_closed(alphabet, second):
        raise NotClosed("a set of a product is not closed")
    return product_within(alphabet, first, second, None)


def product_within(alphabet, first, second, limit):
    """Return the least automaton of the product of two sets that are known to be closed; raise
    TooLarge if it has more states than the limit, which may be None."""
    search = CutSearch(alphabet, least(first), least(second))
    return searched(search, len(alphabet.letters), limit)


def unconnected_word(alphabet, automaton):
    """Return the shortest and then least word of the set that is not connected, or None."""
    many = len(alphabet.letters)
    marks = final_marks(automaton)

    # Nodes are pairs of a state and a number whose bits are set for the letters of the word.
    def step(node, letter):
        return (automaton.rows[node[0]][letter], node[1] | (1 << letter))

    def is_unconnected(node):
        return marks[node[0]] and not is_connected(alphabet, bits_of(node[1]))

    return first_word(many, (automaton.start, 0), step, is_unconnected)


def repetition(alphabet, automaton):
    """Return the least automaton of the repetition of a closed set of connected words."""
    if not is_closed(alphabet, automaton):
        raise NotClosed("the set of a repetition is not closed")
    if unconnected_word(alphabet, automaton) is not None:
        raise NotConnected("the set of a repetition has a word that is not connected")
    return repetition_within(alphabet, automaton, None)


def repetition_within(alphabet, automaton, limit):
    """Return the least automaton of the repetition of a set that is known to be closed and to have
    connected words only; raise TooLarge if it has more states than the limit, which may be None."""
    search = RepeatSearch(alphabet, least(automaton))
    return searched(search, len(alphabet.letters), limit)
