"""What places know, and what they know together, when some words are possible."""

from placewords.events import view
from placewords.words import place_words


def is_true(alphabet, words, word, fact):
    """Tell whether a fact is true at a word, where the words of a list are possible."""
    worlds = [*words, word]
    views = [
        [_view_words(alphabet, world, place) for world in worlds] for place in range(alphabet.places)
    ]
    # For each place and each word the indexes of the possible words that it takes for possible.
    seen = [[_equal_rows(row[:-1], one) for one in row] for row in views]
    return _truths(worlds, seen, fact)[-1]


def _view_words(alphabet, word, place):
    letters = [word[event] for event in view(alphabet, word, place)]
    return place_words(alphabet, letters)


def _equal_rows(rows, one):
    return [index for index, row in enumerate(rows) if row == one]


def _truths(worlds, seen, fact):
    # Whether the fact is true, for each of the words.
    kind = fact[0]
    if kind == "count":
        return [list(world).count(fact[1]) >= fact[2] for world in worlds]
    if kind == "both":
        firsts = _truths(worlds, seen, fact[1])
        return [one and two for one, two in zip(firsts, _truths(worlds, seen, fact[2]))]
    inner = _truths(worlds, seen, fact[-1])
    if kind == "not":
        return [not truth for truth in inner]
    if kind == "knows":
        reached = seen[fact[1]]
    else:
        reached = [_led_to(seen, index) for index in range(len(worlds))]
    return [all([inner[other] for other in others]) for others in reached]


def _led_to(seen, index):
    # The indexes of all words to which rows of possible words lead, the first one among them.
    found = [index]
    at = 0
    while at < len(found):
        for rows in seen:
            found.extend([other for other in rows[found[at]] if other not in found])
        at += 1
    return found
