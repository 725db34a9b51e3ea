"""Cuts of words, and conditions for the last letters of a cut at all places."""

from placewords.events import place_events
from placewords.forms import moved_heads, ready_letters
from placewords.words import place_words


def is_cut(alphabet, word, events):
    """Tell whether a set of events has with each event all events below it."""
    chosen = {event: True for event in events}
    for event in events:
        if not 0 <= event < len(word):
            return False
    for line in place_events(alphabet, word):
        complete = True
        for event in line:
            if event in chosen and not complete:
                return False
            complete = event in chosen
    return True


def holds(alphabet, word, events, conditions):
    """Tell whether the conditions hold in a cut."""
    lasts = [-1] * alphabet.places
    for event in sorted(events):
        for place in alphabet.letters[word[event]]:
            lasts[place] = word[event]
    return _unmet_place(lasts, conditions) < 0


def _unmet_place(lasts, conditions):
    # The first place whose last letter is not in its condition, -1 if there is none.
    for place, letter in enumerate(lasts):
        if letter not in conditions[place]:
            return place
    return -1


def _last_letters(queues, heads):
    return [queue[head - 1] if head > 0 else -1 for queue, head in zip(queues, heads)]


def least_cut(alphabet, word, conditions):
    """Return the least cut in which the conditions hold, an ascending list, or None."""
    lines = place_events(alphabet, word)
    queues = place_words(alphabet, word)
    heads = [0] * alphabet.places
    place = _unmet_place(_last_letters(queues, heads), conditions)
    # At a place whose condition is not met, each such cut has one more event at least.
    while place >= 0:
        if heads[place] == len(lines[place]):
            return None
        _take_below(alphabet, word, lines, heads, lines[place][heads[place]])
        place = _unmet_place(_last_letters(queues, heads), conditions)
    taken = [line[:head] for line, head in zip(lines, heads)]
    return sorted(set([event for line in taken for event in line]))


def _take_below(alphabet, word, lines, heads, event):
    # Moves the heads behind an event and all events below it.
    waiting = [event]
    while len(waiting) > 0:
        current = waiting.pop()
        for place in alphabet.letters[word[current]]:
            line = lines[place]
            while heads[place] < len(line) and line[heads[place]] <= current:
                waiting.append(line[heads[place]])
                heads[place] += 1


def avoiding_order(alphabet, word, conditions):
    """Return None if each order of a word passes a cut in which the conditions hold, otherwise the
    least order that passes none."""
    queues = place_words(alphabet, word)
    heads = tuple([0] * alphabet.places)
    # The least order that leads to each cut of one size without passing such a cut.
    orders = {heads: ()} if _unmet_place(_last_letters(queues, heads), conditions) >= 0 else {}
    for _ in range(len(word)):
        longer = {}
        for heads, order in orders.items():
            for letter in ready_letters(alphabet, queues, heads):
                behind = moved_heads(alphabet, heads, letter)
                found = (*order, letter)
                if _unmet_place(_last_letters(queues, behind), conditions) >= 0:
                    longer[behind] = min(longer.get(behind, found), found)
        orders = longer
    left = list(orders.values())
    return left[0] if len(left) > 0 else None
