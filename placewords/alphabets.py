"""Alphabets: places, letters that happen at them, and which letters depend on one another."""

from placewords.bits import mask_of
from placewords.errors import InvalidAlphabet

MOST_PLACES = 4
MOST_LETTERS = 6


class Alphabet:
    """Places 0, 1, .. and for each letter the ascending tuple of its places."""

    def __init__(self, places, letters):
        rows = tuple([tuple(row) for row in letters])
        if not 1 <= places <= MOST_PLACES:
            raise InvalidAlphabet("an alphabet has 1 to 4 places")
        if not 1 <= len(rows) <= MOST_LETTERS:
            raise InvalidAlphabet("an alphabet has 1 to 6 letters")
        for row in rows:
            _check_letter(places, row)
        self.places = places
        self.letters = rows


def _check_letter(places, row):
    if len(row) == 0:
        raise InvalidAlphabet("a letter has no place")
    for place in row:
        if not 0 <= place < places:
            raise InvalidAlphabet("a place of a letter is not there")
    for index in range(1, len(row)):
        if row[index - 1] >= row[index]:
            raise InvalidAlphabet("the places of a letter do not ascend")


def independent(alphabet, first, second):
    """Tell whether two letters have no common place."""
    others = alphabet.letters[second]
    for place in alphabet.letters[first]:
        if place in others:
            return False
    return True


def components(alphabet, letters):
    """Return the greatest connected parts of a set of letters, as ascending lists."""
    left = sorted(letters)
    parts = []
    while len(left) > 0:
        part = _reached(alphabet, left)
        parts.append(part)
        left = [letter for letter in left if letter not in part]
    return parts


def _reached(alphabet, letters):
    # The component of the first one of the letters.
    part = [letters[0]]
    at = 0
    while at < len(part):
        for letter in letters:
            if letter not in part and not independent(alphabet, part[at], letter):
                part.append(letter)
        at += 1
    return sorted(part)


def is_connected(alphabet, letters):
    """Tell whether a set of letters, a list without duplicates, is connected."""
    return len(components(alphabet, letters)) <= 1


def place_masks(alphabet):
    """Return for each letter the number whose bits are set at the places of the letter."""
    return [mask_of(row) for row in alphabet.letters]


def independent_pairs(alphabet):
    """Return all pairs of letters that are independent, each in both orders, in ascending order."""
    many = len(alphabet.letters)
    return [(a, b) for a in range(many) for b in range(many) if independent(alphabet, a, b)]
