"""Ranks of least words among all least words of their length."""

from placewords.automata import final_marks
from placewords.closure import least_words


def _counts(automaton, length):
    # For each number of letters, for each state, the number of the words of so many letters that
    # are accepted from there on.
    rows = [[1 if mark else 0 for mark in final_marks(automaton)]]
    while len(rows) <= length:
        rows.append([sum([rows[-1][target] for target in row]) for row in automaton.rows])
    return rows


def rank_of_word(alphabet, word):
    """Return the number of least words of the same length that are less than a least word."""
    automaton = least_words(alphabet)
    counts = _counts(automaton, len(word))
    state = automaton.start
    rank = 0
    for at, letter in enumerate(word):
        left = len(word) - at - 1
        rank += sum([counts[left][target] for target in automaton.rows[state][:letter]])
        state = automaton.rows[state][letter]
    return rank


def word_at_rank(alphabet, length, rank):
    """Return the least word of a length with a rank, or None if there are not so many of them."""
    automaton = least_words(alphabet)
    counts = _counts(automaton, length)
    state = automaton.start
    if rank >= counts[length][state]:
        return None
    word = []
    for left in reversed(range(length)):
        row = automaton.rows[state]
        letter = 0
        while rank >= counts[left][row[letter]]:
            rank -= counts[left][row[letter]]
            letter += 1
        word.append(letter)
        state = row[letter]
    return tuple(word)
