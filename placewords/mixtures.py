"""Mixtures of the sets of two automata, and shortest words in which they differ."""

from placewords.automata import Automaton, final_marks, least
from placewords.explored import explored
from placewords.paths import first_word


def _is_wanted(kind, in_first, in_second):
    if kind == "and":
        return in_first and in_second
    if kind == "or":
        return in_first or in_second
    if kind == "minus":
        return in_first and not in_second
    return in_first != in_second


def _pair_steps(kind, first, second):
    # What is behind a pair of states and a letter, and whether a pair is wanted.
    ones = final_marks(first)
    others = final_marks(second)

    def step(pair, letter):
        return (first.rows[pair[0]][letter], second.rows[pair[1]][letter])

    def is_end(pair):
        return _is_wanted(kind, ones[pair[0]], others[pair[1]])

    return step, is_end


def mixture(kind, first, second):
    """Return the least automaton of the words that both ("and"), or one or both ("or"), or the
    first and not the second ("minus") accept."""
    step, is_end = _pair_steps(kind, first, second)
    return explored(first.letters, (first.start, second.start), step, is_end)


def other_words(automaton):
    """Return the least automaton of the words that an automaton does not accept."""
    marks = final_marks(automaton)
    finals = [state for state in range(len(marks)) if not marks[state]]
    return least(Automaton(automaton.letters, automaton.start, finals, automaton.rows))


def difference(first, second):
    """Return the shortest and then least word that exactly one of both accepts, or None."""
    return _first_wanted("one", first, second)


def gap(first, second):
    """Return the shortest and then least word that only the first accepts, or None."""
    return _first_wanted("minus", first, second)


def _first_wanted(kind, first, second):
    step, is_end = _pair_steps(kind, first, second)
    return first_word(first.letters, (first.start, second.start), step, is_end)
