"""Machines at the places that together tell whether a word is in a closed set.

A local state has the table of labels of gossip.py, and behind it one turn for each set of places.
A turn is the tuple of the states of the least automaton to which some events lead from each of its
states. The turn of a set of places is that of the events of the view that are not below the newest
event, in this view, of a place of the set. A set of places is a number with their bits."""

from placewords.automata import final_marks, least
from placewords.bits import mask_of
from placewords.closure import is_closed
from placewords.errors import NotClosed, TooLarge
from placewords.gossip import best_views, empty_table, known_labels, known_row, met_table

MOST_STATES = 40


class Machines:
    """Machines for an alphabet and an automaton whose set is closed."""

    def __init__(self, alphabet, automaton):
        if len(automaton.rows) > MOST_STATES:
            raise TooLarge("the automaton has more than 40 states")
        if not is_closed(alphabet, automaton):
            raise NotClosed("the set of the automaton is not closed")
        self.alphabet = alphabet
        self.automaton = least(automaton)
        self.size = len(self.automaton.rows)

    def start(self):
        """Return the local states of all places at the beginning."""
        many = self.alphabet.places
        still = tuple(range(self.size))
        return tuple([empty_table(many) + still * (1 << many)] * many)

    def meet(self, letter, states):
        """Return the new local states of the places of a letter that happens."""
        many = self.alphabet.places
        tables = [self._table(state) for state in states]
        rows = self._newest_rows(tables)
        state = list(met_table(self.alphabet, letter, tables))
        step = [row[letter] for row in self.automaton.rows]
        own = mask_of(self.alphabet.letters[letter])
        for chosen in range(1 << many):
            if chosen & own != 0:
                # The new event is the newest one of its places, and all others are below it.
                state.extend(list(range(self.size)))
            else:
                known = [rows[place] for place in range(many) if chosen & (1 << place) != 0]
                turn = self._turn_beyond(states, known)
                state.extend([step[target] for target in turn])
        return tuple([tuple(state)] * len(states))

    def accepts(self, states):
        """Tell whether the automaton accepts the word that has happened so far."""
        turn = self._turn_beyond(states, [])
        return final_marks(self.automaton)[turn[self.automaton.start]]

    def _table(self, state):
        many = self.alphabet.places
        return state[:many * many * many]

    def _newest_rows(self, tables):
        # For each place what its newest event, as far as one of the places that meet knows it,
        # knows of all places.
        many = self.alphabet.places
        best = best_views(many, tables)
        return [known_row(many, tables[best[place]], place) for place in range(many)]

    def _turn_beyond(self, states, rows):
        # The turn of all events that are in the view of one of the local states, and not below
        # the event of one of the rows: view by view, without what is below an earlier one.
        many = self.alphabet.places
        labels = [label for row in rows for label in row]
        turn = list(range(self.size))
        for state in states:
            newest = known_labels(many, self._table(state))
            chosen = 0
            for place in range(many):
                if newest[place] != 0 and newest[place] in labels:
                    chosen = chosen | (1 << place)
            following = self._turn_of(state, chosen)
            turn = [following[target] for target in turn]
            labels.extend(newest)
        return turn

    def _turn_of(self, state, chosen):
        many = self.alphabet.places
        at = many * many * many + chosen * self.size
        return state[at:at + self.size]


def states_behind(machines, alphabet, states, letter):
    """Return the local states of all places behind a letter, which is handed to its own places
    alone."""
    places = alphabet.letters[letter]
    behind = list(states)
    met = machines.meet(letter, tuple([states[place] for place in places]))
    for place, state in zip(places, met):
        behind[place] = state
    return tuple(behind)


def run_apart(machines, alphabet, word):
    """Return the local states of all places behind a word."""
    states = machines.start()
    for letter in word:
        states = states_behind(machines, alphabet, states, letter)
    return states
