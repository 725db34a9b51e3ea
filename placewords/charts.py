"""Charts of messages, what comes surely before what in them, and races."""

from placewords.errors import InvalidAlphabet

FEWEST_PLACES = 2
MOST_PLACES = 4
MOST_MESSAGES = 40


class Chart:
    """Places 0, 1, .. and messages, pairs of the place of the sender and that of the receiver."""

    def __init__(self, places, messages):
        if not FEWEST_PLACES <= places <= MOST_PLACES:
            raise InvalidAlphabet("a chart has 2 to 4 places")
        if len(messages) > MOST_MESSAGES:
            raise InvalidAlphabet("a chart has at most 40 messages")
        for sender, receiver in messages:
            if not 0 <= sender < places or not 0 <= receiver < places:
                raise InvalidAlphabet("the sender or the receiver of a message is not there")
            if sender == receiver:
                raise InvalidAlphabet("a message goes to the place itself")
        self.places = places
        self.messages = tuple([tuple(message) for message in messages])


def _places_of_events(chart):
    return [place for message in chart.messages for place in message]


def line(chart, place):
    """Return the ascending list of the events of a place."""
    return [event for event, other in enumerate(_places_of_events(chart)) if other == place]


def surely_before(chart, first, second):
    """Tell whether the first event comes surely before the second one."""
    return _surely_before(chart)[second] & (1 << first) != 0


def races(chart):
    """Return the ascending list of the pairs of events on one line whose order is not sure."""
    before = _surely_before(chart)
    lines = [line(chart, place) for place in range(chart.places)]
    return sorted([
        (i, j) for events in lines for j in events for i in events
        if i < j and before[j] & (1 << i) == 0
    ])


def _surely_before(chart):
    # For each event the number with the bits of all events that come surely before it. All of them
    # have smaller numbers, so what comes before these is known already.
    before = []
    for event in range(2 * len(chart.messages)):
        mask = 0
        for other in _directly_before(chart, event):
            mask = mask | before[other] | (1 << other)
        before.append(mask)
    return before


def _directly_before(chart, event):
    # The events that come before an event by one of the first three rules alone.
    number = event // 2
    message = chart.messages[number]
    if event == 2 * number:
        return [other for other in line(chart, message[0]) if other < event]
    earlier = [2 * at + 1 for at in range(number) if chart.messages[at] == message]
    return [2 * number, *earlier]
