"""Accepted orders of a word to which the fewest swaps lead."""

from placewords.events import place_events
from placewords.orderings import order_values


def nearest_order(alphabet, automaton, word):
    """Return the pair of an accepted order with the least distance from a word and this distance,
    or None if there is no accepted order."""
    lines = place_events(alphabet, word)

    def longer(value, heads, letter):
        distance, order = value
        return (distance + _passed(lines, heads, alphabet.letters[letter][0]), (*order, letter))

    found = order_values(
        alphabet, automaton, word, (0, ()), longer, lambda one, other: min(one, other)
    )
    if len(found) == 0:
        return None
    distance, order = min(found)
    return (order, distance)


def _passed(lines, heads, place):
    # How many events behind the heads stand ahead, in the word, of the next event of the place:
    # each of them is swapped with it once.
    event = lines[place][heads[place]]
    left = [other for line, head in zip(lines, heads) for other in line[head:] if other < event]
    return len(set(left))
