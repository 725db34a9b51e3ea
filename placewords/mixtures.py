"""Mixtures of the sets of two automata, and shortest words in which they differ."""

from placewords.automata import Automaton, final_marks, least
from placewords.paths import spelled


def _is_wanted(kind, in_first, in_second):
    if kind == "and":
        return in_first and in_second
    if kind == "or":
        return in_first or in_second
    if kind == "minus":
        return in_first and not in_second
    return in_first != in_second


def mixture(kind, first, second):
    """Return the least automaton of the words that both ("and"), or one or both ("or"), or the
    first and not the second ("minus") accept."""
    pairs = [(first.start, second.start)]
    numbers = {pairs[0]: 0}
    rows = []
    while len(rows) < len(pairs):
        row = []
        one, other = pairs[len(rows)]
        for letter in range(first.letters):
            pair = (first.rows[one][letter], second.rows[other][letter])
            if pair not in numbers:
                numbers[pair] = len(pairs)
                pairs.append(pair)
            row.append(numbers[pair])
        rows.append(row)
    ones = final_marks(first)
    others = final_marks(second)
    finals = [
        number
        for number, (one, other) in enumerate(pairs)
        if _is_wanted(kind, ones[one], others[other])
    ]
    return least(Automaton(first.letters, 0, finals, rows))


def other_words(automaton):
    """Return the least automaton of the words that an automaton does not accept."""
    marks = final_marks(automaton)
    finals = [state for state in range(len(marks)) if not marks[state]]
    return least(Automaton(automaton.letters, automaton.start, finals, automaton.rows))


def difference(first, second):
    """Return the shortest and then least word that exactly one of both accepts, or None."""
    return _first_wanted("one", first, second)


def gap(first, second):
    """Return the shortest and then least word that only the first accepts, or None."""
    return _first_wanted("minus", first, second)


def _first_wanted(kind, first, second):
    ones = final_marks(first)
    others = final_marks(second)
    pairs = [(first.start, second.start)]
    came_from = {pairs[0]: None}
    at = 0
    # Pairs are found in the order of the least shortest words that lead to them.
    while at < len(pairs):
        one, other = pairs[at]
        if _is_wanted(kind, ones[one], others[other]):
            return spelled(came_from, pairs[at])
        for letter in range(first.letters):
            pair = (first.rows[one][letter], second.rows[other][letter])
            if pair not in came_from:
                came_from[pair] = (pairs[at], letter)
                pairs.append(pair)
        at += 1
    return None
