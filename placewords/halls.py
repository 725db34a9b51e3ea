"""Halls: places that cannot meet send messages to one another.

An event of a place is a pair of its letter and how often this letter stands ahead of it in the
queue of the place. So the same event is the same pair at all places of its letter."""


class Hall:
    """For each place its events, its position among them and its local state. Of each event of a
    place it is kept which local state its host has heard in an offer, and which one the host has
    sent in an answer; None if there was none."""

    def __init__(self, alphabet, machines, queues):
        self.alphabet = alphabet
        self.machines = machines
        self.events = tuple([_events_of(queue) for queue in queues])
        self.positions = tuple([0] * alphabet.places)
        self.held = machines.start()
        nothing = tuple([tuple([None] * len(events)) for events in self.events])
        self.offered = nothing
        self.answered = nothing

    def ask(self, place):
        """Let a place go on, and return the messages that it sends: answers, then its offer."""
        sent = self._go_on(place)
        event = self._next_event(place)
        if event is not None and self._host(event) != place:
            at = self.positions[place]
            sent.append(("offer", place, self._host(event), at, self.held[place]))
        return sent

    def hear(self, message):
        """Let the receiver of a message hear it, and return the messages that it sends."""
        kind, sender, receiver, position, state = message
        sent = []
        if kind == "answer":
            if position == self.positions[receiver]:
                self._take(receiver, state)
        elif self.answered[sender][position] is not None:
            sent.append(self._answer(sender, position))
        else:
            self.offered = _with_item(self.offered, sender, position, state)
        return sent + self._go_on(receiver)

    def state(self, place):
        """Return the local state of a place."""
        return self.held[place]

    def position(self, place):
        """Return the position of a place in its queue."""
        return self.positions[place]

    def is_done(self):
        """Tell whether all places are at the ends of their queues."""
        return list(self.positions) == [len(events) for events in self.events]

    def crash(self, place):
        """Let a place forget all offers that it has heard."""
        self.offered = tuple([
            self._without_offers(place, events, states)
            for events, states in zip(self.events, self.offered)
        ])

    def _without_offers(self, host, events, states):
        return tuple([
            None if self._host(event) == host else state for event, state in zip(events, states)
        ])

    def _host(self, event):
        return self.alphabet.letters[event[0]][0]

    def _next_event(self, place):
        # None if the place is at the end of its queue.
        at = self.positions[place]
        return self.events[place][at] if at < len(self.events[place]) else None

    def _go_on(self, place):
        # Returns the answers of all meetings that the place can hold.
        sent = []
        states = self._states_to_meet(place)
        while len(states) > 0:
            sent.extend(self._met(place, states))
            states = self._states_to_meet(place)
        return sent

    def _states_to_meet(self, place):
        # The local states of the places of the next event; none if the place is not its host, or
        # has not heard all offers for it.
        event = self._next_event(place)
        if event is None or self._host(event) != place:
            return ()
        states = [self.held[place]]
        for other in self.alphabet.letters[event[0]][1:]:
            if event not in self.events[other]:
                return ()
            states.append(self.offered[other][self.events[other].index(event)])
        return () if None in states else tuple(states)

    def _met(self, place, states):
        # Lets the next event of its host happen, and returns the answers for it.
        event = self._next_event(place)
        places = self.alphabet.letters[event[0]]
        behind = self.machines.meet(event[0], states)
        self._take(place, behind[0])
        sent = []
        for other, state in list(zip(places, behind))[1:]:
            at = self.events[other].index(event)
            self.answered = _with_item(self.answered, other, at, state)
            sent.append(self._answer(other, at))
        return sent

    def _answer(self, place, position):
        host = self._host(self.events[place][position])
        return ("answer", host, place, position, self.answered[place][position])

    def _take(self, place, state):
        # The place takes the new local state behind its next event.
        self.held = _replaced(self.held, place, state)
        self.positions = _replaced(self.positions, place, self.positions[place] + 1)


def _events_of(queue):
    letters = tuple(queue)
    return tuple([(letter, letters[:at].count(letter)) for at, letter in enumerate(letters)])


def _replaced(items, index, item):
    return (*items[:index], item, *items[index + 1:])


def _with_item(rows, row, index, item):
    return _replaced(rows, row, _replaced(rows[row], index, item))
