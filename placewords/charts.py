"""Charts of messages, what comes surely before what in them, and races."""

from placewords.errors import InvalidAlphabet

FEWEST_PLACES = 2
MOST_PLACES = 4
MOST_MESSAGES = 40


class Chart:
    """Places 0, 1, .. and messages, pairs of the place of the sender and that of the receiver; and
    for each event the number with the bits of all events that come surely before it."""

    def __init__(self, places, messages):
        if not FEWEST_PLACES <= places <= MOST_PLACES:
            raise InvalidAlphabet("a chart has 2 to 4 places")
        if len(messages) > MOST_MESSAGES:
            raise InvalidAlphabet("a chart has at most 40 messages")
        for sender, receiver in messages:
            if not 0 <= sender < places or not 0 <= receiver < places:
                raise InvalidAlphabet("the sender or the receiver of a message is not there")
            if sender == receiver:
                raise InvalidAlphabet("a message goes to the place itself")
        self.places = places
        self.messages = tuple([tuple(message) for message in messages])
        self.before = _surely_before(self.messages)


def _surely_before(messages):
    # All events that come before an event have smaller numbers, so what comes before these is
    # known already.
    before = []
    for event in range(2 * len(messages)):
        mask = 0
        for other in _directly_before(messages, event):
            mask = mask | before[other] | (1 << other)
        before.append(mask)
    return tuple(before)


def _directly_before(messages, event):
    # The events that come before an event by one of the first three rules alone.
    number = event // 2
    message = messages[number]
    if event == 2 * number:
        return [other for other in _line(messages, message[0]) if other < event]
    earlier = [2 * at + 1 for at in range(number) if messages[at] == message]
    return [2 * number, *earlier]


def _line(messages, place):
    places = [other for message in messages for other in message]
    return [event for event, other in enumerate(places) if other == place]


def line(chart, place):
    """Return the ascending list of the events of a place."""
    return _line(chart.messages, place)


def surely_before(chart, first, second):
    """Tell whether the first event comes surely before the second one."""
    return chart.before[second] & (1 << first) != 0


def races(chart):
    """Return the ascending list of the pairs of events on one line whose order is not sure."""
    lines = [line(chart, place) for place in range(chart.places)]
    return sorted([
        (i, j) for events in lines for j in events for i in events
        if i < j and not surely_before(chart, i, j)
    ])
