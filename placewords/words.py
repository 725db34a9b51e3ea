"""Words, the words of places, and swaps of independent neighbours."""

from placewords.alphabets import independent


def place_word(alphabet, word, place):
    """Return the letters of a word that happen at a place, in their order."""
    return tuple([letter for letter in word if place in alphabet.letters[letter]])


def place_words(alphabet, word):
    """Return the list of the words of all places."""
    return [place_word(alphabet, word, place) for place in range(alphabet.places)]


def equivalent(alphabet, first, second):
    """Tell whether swaps lead from one word to the other."""
    return place_words(alphabet, first) == place_words(alphabet, second)


def swaps(alphabet, first, second):
    """Return a shortest list of positions of swaps from the first word to the second, or None."""
    if not equivalent(alphabet, first, second):
        return None
    # Each letter is moved to its place straight away, so that no two events are swapped twice.
    current = list(first)
    positions = []
    for target in range(len(second)):
        at = current.index(second[target], target)
        while at > target:
            at -= 1
            positions.append(at)
            _swap(current, at)
    return positions


def swapped(alphabet, word, positions):
    """Return the word after the swaps at the positions, or None if one of them is not possible."""
    current = list(word)
    for at in positions:
        if at < 0 or at + 1 >= len(current):
            return None
        if not independent(alphabet, current[at], current[at + 1]):
            return None
        _swap(current, at)
    return tuple(current)


def _swap(letters, at):
    letters[at], letters[at + 1] = letters[at + 1], letters[at]
