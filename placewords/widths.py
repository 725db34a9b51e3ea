"""Events that are apart from one another, and rows that have all events.

Rows are kept as two lists: the event behind each event in its row, and the one ahead of it; -1
stands for none. A search goes from the last events of all rows to the events above them, from each
of these to the one ahead of it in its row, from there to the events above this one, and so on. If
it comes to the first event of a row, the steps that led there are taken into the rows, and there is
one row less. Otherwise each row has just one event from which the search went on and to which it
did not come from below; these events are apart from one another."""

from placewords.alphabets import place_masks
from placewords.bits import bits_of


def widest(alphabet, word):
    """Return the pair of an ascending list of events that are apart from one another, as many as
    can be, and a list of as many rows that have all events."""
    above = _masks_above(alphabet, word)
    behind, ahead = _first_rows(alphabet, word)
    sources, came_from, end = _searched(above, behind, ahead)
    while end >= 0:
        _take_steps(behind, ahead, came_from, end)
        sources, came_from, end = _searched(above, behind, ahead)
    apart = sorted([event for event in sources if event not in came_from])
    return (apart, [_row(behind, event) for event in range(len(word)) if ahead[event] < 0])


def _masks_above(alphabet, word):
    # For each event the number with the bits of all other events that it is below.
    masks = place_masks(alphabet)
    above = [0] * len(word)
    for event in reversed(range(len(word))):
        for other in range(event + 1, len(word)):
            if masks[word[event]] & masks[word[other]] != 0:
                above[event] = above[event] | above[other] | (1 << other)
    return above


def _first_rows(alphabet, word):
    # The events of each first place of a letter are a row.
    behind = [-1] * len(word)
    ahead = [-1] * len(word)
    lasts = [-1] * alphabet.places
    for event, letter in enumerate(word):
        place = alphabet.letters[letter][0]
        if lasts[place] >= 0:
            behind[lasts[place]] = event
            ahead[event] = lasts[place]
        lasts[place] = event
    return behind, ahead


def _searched(above, behind, ahead):
    # Returns the events from which the search went on, for each event to which it came the one
    # below it from which it came, and the first event of a row to which it came, -1 if to none.
    sources = [event for event in range(len(behind)) if behind[event] < 0]
    came_from = {}
    left = (1 << len(behind)) - 1
    at = 0
    while at < len(sources):
        more = above[sources[at]] & left
        left = left ^ more
        for event in bits_of(more):
            came_from[event] = sources[at]
            if ahead[event] < 0:
                return sources, came_from, event
            sources.append(ahead[event])
        at += 1
    return sources, came_from, -1


def _take_steps(behind, ahead, came_from, end):
    # An event that gets another one behind it sets free the one that was there before.
    event = end
    while event >= 0:
        below = came_from[event]
        free = behind[below]
        behind[below] = event
        ahead[event] = below
        event = free


def _row(behind, first):
    row = []
    event = first
    while event >= 0:
        row.append(event)
        event = behind[event]
    return row
