"""The order of the events of a word, and what each place knows of it."""

from placewords.alphabets import place_masks


def place_events(alphabet, word):
    """Return for each place the ascending list of the events that happen at it."""
    return [
        [event for event, letter in enumerate(word) if place in alphabet.letters[letter]]
        for place in range(alphabet.places)
    ]


def is_below(alphabet, word, first, second):
    """Tell whether the first event is the second one, or lies below it."""
    return second in events_above(alphabet, word, first)


def events_above(alphabet, word, first):
    """Return the events that an event is below, itself among them, in ascending order."""
    masks = place_masks(alphabet)
    # The places at which something above the event has happened so far.
    reached = masks[word[first]]
    events = [first]
    for event in range(first + 1, len(word)):
        if masks[word[event]] & reached != 0:
            reached = reached | masks[word[event]]
            events.append(event)
    return events


def view(alphabet, word, place):
    """Return the events that are below some event at the place, in ascending order."""
    masks = place_masks(alphabet)
    # The places of the events of the view that come behind; all their earlier events are below.
    reached = 1 << place
    events = []
    for event in reversed(range(len(word))):
        if masks[word[event]] & reached != 0:
            reached = reached | masks[word[event]]
            events.append(event)
    return sorted(events)


def newest(alphabet, word, place):
    """Return for each place its newest event that the given place knows, -1 if there is none."""
    found = [-1] * alphabet.places
    for event in view(alphabet, word, place):
        for other in alphabet.letters[word[event]]:
            found[other] = event
    return tuple(found)
