"""Expressions for closed sets: their automata, and expressions for the sets of automata."""

from placewords.automata import Automaton, least
from placewords.closure import is_closed, least_words
from placewords.elimination import expression_of
from placewords.errors import NotClosed, NotConnected, TooLarge
from placewords.mixtures import mixture
from placewords.products import product_within, repetition_within, unconnected_word

MOST_STATES = 60
MOST_LEAST_WORD_STATES = 6


def expression_automaton(alphabet, expression):
    """Return the least automaton of the set of an expression."""
    return _evaluated(alphabet, expression, {})


def _evaluated(alphabet, expression, known):
    # The dict known keeps what was computed from equal automata; expressions themselves may be
    # nested too deep for keys.
    kind = expression[0]
    if kind == "none" or kind == "empty" or kind == "letter":
        return _simple_automaton(alphabet, expression)
    parts = [_evaluated(alphabet, part, known) for part in expression[1:]]
    key = (kind, tuple([(part.finals, part.rows) for part in parts]))
    if key not in known:
        known[key] = _combined(alphabet, kind, parts)
    return known[key]


def _simple_automaton(alphabet, expression):
    many = len(alphabet.letters)
    if expression[0] == "none":
        return Automaton(many, 0, [], [[0] * many])
    if expression[0] == "empty":
        return Automaton(many, 0, [0], [[1] * many, [1] * many])
    first = [1 if letter == expression[1] else 2 for letter in range(many)]
    return least(Automaton(many, 0, [1], [first, [2] * many, [2] * many]))


def _combined(alphabet, kind, parts):
    if kind == "join":
        return product_within(alphabet, parts[0], parts[1], MOST_STATES)
    if kind == "star":
        if unconnected_word(alphabet, parts[0]) is not None:
            raise NotConnected("a repeated set has a word that is not connected")
        return repetition_within(alphabet, parts[0], MOST_STATES)
    both = mixture("or", parts[0], parts[1])
    if len(both.rows) > MOST_STATES:
        raise TooLarge("the set of an expression has too many states")
    return both


def automaton_expression(alphabet, automaton):
    """Return an expression of the set of an automaton that repeats connected words only."""
    if not is_closed(alphabet, automaton):
        raise NotClosed("the set is not closed")
    # A word that leads around in the automaton of the least words of a closed set is connected:
    # otherwise its powers would not be least. So only connected words are repeated.
    chosen = mixture("and", automaton, least_words(alphabet))
    if len(chosen.rows) > MOST_LEAST_WORD_STATES:
        raise TooLarge("the automaton of the least words has too many states")
    return expression_of(chosen)
