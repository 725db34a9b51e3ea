"""Sets of states, as numbers with the bits of the states, that are found one after the other."""

from placewords.automata import Automaton, least
from placewords.bits import bits_of


class StateSets:
    """The sets to which words lead from a first one on. A step has for each letter a row with the
    set to which the letter leads from each single state."""

    def __init__(self, first, steps):
        self.steps = tuple([tuple(row) for row in steps])
        self.bits = tuple([1 << state for state in range(len(self.steps[0]))])
        self.found = [first]
        self.numbers = {first: 0}
        self.rows = []

    def is_whole(self):
        """Tell whether all sets were followed by all letters."""
        return len(self.rows) == len(self.found)

    def grow(self):
        """Follow one more set by all letters."""
        states = self.found[len(self.rows)]
        row = []
        for step in self.steps:
            behind = 0
            for bit, targets in zip(self.bits, step):
                if states & bit != 0:
                    behind = behind | targets
            if behind not in self.numbers:
                self.numbers[behind] = len(self.found)
                self.found.append(behind)
            row.append(self.numbers[behind])
        self.rows.append(row)

    def numbers_with(self, states):
        """Return the numbers of the sets that were found and have one of some states."""
        return [number for number, found in enumerate(self.found) if found & states != 0]


def _turned(steps):
    """Return the steps that lead back from each state to those from which the steps lead to it."""
    turned_steps = []
    for step in steps:
        back = [0] * len(step)
        for state, targets in enumerate(step):
            for target in bits_of(targets):
                back[target] = back[target] | (1 << state)
        turned_steps.append(back)
    return turned_steps


def sets_automaton(first, steps, finals):
    """Return the least automaton of the words that lead from some state of the first set to some
    final one."""
    live = _live_states(steps, finals)
    kept = [[targets & live for targets in step] for step in steps]
    # The sets can be very many in one direction and few in the other one.
    forth = StateSets(first & live, kept)
    back = StateSets(finals, _turned(kept))
    while not forth.is_whole() and not back.is_whole():
        forth.grow()
        back.grow()
    if forth.is_whole():
        return _automaton_of(forth, finals)
    return _automaton_of(_turned_sets(back, first), 1)


def _live_states(steps, finals):
    # The states from which some word leads to a final one.
    back = _turned(steps)
    live = finals
    found = bits_of(finals)
    at = 0
    while at < len(found):
        for step in back:
            more = (step[found[at]] | live) ^ live
            live = live | more
            found.extend(bits_of(more))
        at += 1
    return live


def _automaton_of(sets, finals):
    return least(Automaton(len(sets.steps), 0, sets.numbers_with(finals), sets.rows))


def _turned_sets(sets, ends):
    # Sets of the numbers of the sets that were found on the way back. Of two different ones some
    # number is in one only, and the words that led to it on the way back end in this one only: so
    # there are no more of them than the least automaton has states.
    steps = [[1 << row[letter] for row in sets.rows] for letter in range(len(sets.steps))]
    first = sum([1 << number for number in sets.numbers_with(ends)])
    back = StateSets(first, _turned(steps))
    while not back.is_whole():
        back.grow()
    return back
