"""Merges of two words that begin with a common word, and their conflicts."""

from placewords.alphabets import independent
from placewords.prefixes import common_prefix, events_behind, join


def merge(alphabet, first, second):
    """Return ("merged", word) with the least form of the merge, or ("conflict", i, j) with the
    least pair of events behind the common prefix whose letters are dependent."""
    merged = join(alphabet, first, second)
    if merged is not None:
        return ("merged", merged)
    prefix = common_prefix(alphabet, first, second)
    others = events_behind(alphabet, second, prefix)
    pairs = [
        (i, j)
        for i in events_behind(alphabet, first, prefix)
        for j in others
        if not independent(alphabet, first[i], second[j])
    ]
    i, j = pairs[0]
    return ("conflict", i, j)
