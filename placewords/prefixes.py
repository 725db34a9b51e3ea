"""Prefixes up to order, joins, and the number of orders of a word."""

from math import comb

from placewords.alphabets import components, independent
from placewords.forms import least_form, moved_heads, ready_letters
from placewords.words import place_words


def rest(alphabet, first, second):
    """Return the least form of what follows the first word in the second one, or None."""
    begun = place_words(alphabet, first)
    whole = place_words(alphabet, second)
    for place in range(alphabet.places):
        if whole[place][:len(begun[place])] != begun[place]:
            return None
    return least_form(alphabet, _without(alphabet, second, first))


def events_behind(alphabet, word, prefix):
    """Return the events of a word that are not in a prefix of it up to order."""
    # The prefix takes, of each letter, the first occurrences.
    taken = [0] * len(alphabet.letters)
    for letter in prefix:
        taken[letter] += 1
    left = []
    for event, letter in enumerate(word):
        if taken[letter] > 0:
            taken[letter] -= 1
        else:
            left.append(event)
    return left


def _without(alphabet, word, prefix):
    return [word[event] for event in events_behind(alphabet, word, prefix)]


def common_prefix(alphabet, first, second):
    """Return the least form of the greatest common prefix up to order."""
    ones = place_words(alphabet, first)
    others = place_words(alphabet, second)
    heads = tuple([0] * alphabet.places)
    found = []
    letter = _ready_in_both(alphabet, ones, others, heads)
    while letter >= 0:
        found.append(letter)
        heads = moved_heads(alphabet, heads, letter)
        letter = _ready_in_both(alphabet, ones, others, heads)
    return tuple(found)


def _ready_in_both(alphabet, ones, others, heads):
    allowed = ready_letters(alphabet, others, heads)
    for letter in ready_letters(alphabet, ones, heads):
        if letter in allowed:
            return letter
    return -1


def join(alphabet, first, second):
    """Return the least form of the join of two words, or None if there is none."""
    prefix = common_prefix(alphabet, first, second)
    left = _without(alphabet, first, prefix)
    right = _without(alphabet, second, prefix)
    for a in sorted(set(left)):
        for b in sorted(set(right)):
            if not independent(alphabet, a, b):
                return None
    return least_form(alphabet, [*prefix, *left, *right])


def order_count(alphabet, word):
    """Return the number of words that are equivalent to a word."""
    count = 1
    size = 0
    # Words of different components mix in every way, so each is counted for itself.
    for part in components(alphabet, sorted(set(word))):
        letters = [letter for letter in word if letter in part]
        size = size + len(letters)
        count = count * comb(size, len(letters)) * _orders(alphabet, letters)
    return count


def _orders(alphabet, word):
    # For each way in which the places may stand behind the same number of letters: how many
    # orders lead there.
    queues = place_words(alphabet, word)
    counts = {tuple([0] * alphabet.places): 1}
    for _ in range(len(word)):
        following = {}
        for heads, count in counts.items():
            for letter in ready_letters(alphabet, queues, heads):
                behind = moved_heads(alphabet, heads, letter)
                following[behind] = following.get(behind, 0) + count
        counts = following
    return sum(list(counts.values()))
