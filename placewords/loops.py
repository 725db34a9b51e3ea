"""Words without end, as loops of a head and a turn."""

from placewords.words import place_word


def same_loop(alphabet, first, second):
    """Tell whether two loops have for each place the same word of the place."""
    for place in range(alphabet.places):
        one = [place_word(alphabet, part, place) for part in first]
        other = [place_word(alphabet, part, place) for part in second]
        if not _are_same(one, other):
            return False
    return True


def _are_same(one, other):
    # Both are pairs of a head and a turn; dependent letters of one place are never swapped.
    if len(one[1]) == 0 or len(other[1]) == 0:
        return one == other
    # Behind both heads, words that repeat after p and after q letters are equal for ever if they
    # are equal for p + q letters.
    size = max(len(one[0]), len(other[0])) + len(one[1]) + len(other[1])
    return _beginning(one, size) == _beginning(other, size)


def _beginning(loop, size):
    head, turn = loop
    letters = head + turn * (size // len(turn) + 1)
    return letters[:size]
