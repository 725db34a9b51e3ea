"""Monitors at the places, which tell where a claim is true.

A local state has the table of labels of gossip.py, behind it the row of the claim at the last event
of the place, and behind it, for each place, the row at its newest event in the view."""

from placewords.claims import claim_parts, event_row, false_row
from placewords.gossip import best_views, empty_table, met_table


class Monitors:
    """Monitors for an alphabet and a claim."""

    def __init__(self, alphabet, claim):
        self.alphabet = alphabet
        self.parts = claim_parts(claim)

    def start(self):
        """Return the local states of all places at the beginning."""
        many = self.alphabet.places
        nothing = _marks(false_row(self.parts))
        return tuple([empty_table(many) + nothing * (many + 1)] * many)

    def meet(self, letter, states):
        """Return the new local states of the places of a letter that happens."""
        many = self.alphabet.places
        places = self.alphabet.letters[letter]
        tables = [state[:many * many * many] for state in states]
        # Who knows the newest event of a place knows whether the parts were true there.
        best = best_views(many, tables)
        known = [self._row(states[best[place]], place + 1) for place in range(many)]
        row = _marks(event_row(self.alphabet, self.parts, letter, known))
        state = met_table(self.alphabet, letter, tables) + row
        for place in range(many):
            state = state + (row if place in places else known[place])
        return tuple([state] * len(states))

    def truth(self, state):
        """Tell whether the claim is true at the last event of the place with this local state."""
        return self._row(state, 0)[-1] == 1

    def _row(self, state, index):
        size = len(self.parts)
        at = len(state) - (self.alphabet.places + 1 - index) * size
        return state[at:at + size]


def _marks(row):
    return tuple([1 if mark else 0 for mark in row])
