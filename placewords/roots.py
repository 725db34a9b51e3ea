"""Roots of words, words that commute, and crossings."""

from math import gcd

from placewords.forms import least_form
from placewords.prefixes import common_prefix, rest
from placewords.words import equivalent, place_words


def root(alphabet, word):
    """Return the pair of the least form of the root of a word that is not empty, and the exponent
    with which the word is the power of the root."""
    exponent = 0
    for letter in sorted(set(word)):
        exponent = gcd(exponent, list(word).count(letter))
    rows = place_words(alphabet, word)
    while not _are_powers(rows, exponent):
        exponent -= 1
    return (least_form(alphabet, _part(word, exponent)), exponent)


def _are_powers(rows, exponent):
    for row in rows:
        if row[:len(row) // exponent] * exponent != row:
            return False
    return True


def _part(word, exponent):
    # Of each letter the first occurrences, one part of as many as the exponent says. If the words
    # of all places are powers, these are the first events of each place.
    left = {letter: list(word).count(letter) // exponent for letter in sorted(set(word))}
    found = []
    for letter in word:
        if left[letter] > 0:
            left[letter] -= 1
            found.append(letter)
    return found


def commute(alphabet, first, second):
    """Tell whether two words, one after the other, are equivalent in both orders."""
    return equivalent(alphabet, [*first, *second], [*second, *first])


def crossing(alphabet, x, y, u, v):
    """Return the least forms of the words p, r, s and q that cross in x, y and u, v, or None."""
    if not equivalent(alphabet, [*x, *y], [*u, *v]):
        return None
    both = common_prefix(alphabet, x, u)
    first = rest(alphabet, both, x)
    second = rest(alphabet, both, u)
    return (both, first, second, rest(alphabet, second, y))
