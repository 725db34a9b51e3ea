"""Sets of states, as numbers with the bits of the states, that are found one after the other."""

from placewords.automata import Automaton, least
from placewords.bits import bits_of, mask_of


class StateSets:
    """The sets to which words lead from a first one on. A step has for each letter a row with the
    set to which the letter leads from each single state."""

    def __init__(self, first, steps):
        self.steps = tuple([tuple(row) for row in steps])
        self.found = [first]
        self.numbers = {first: 0}
        self.rows = []

    def is_whole(self):
        """Tell whether all sets were followed by all letters."""
        return len(self.rows) == len(self.found)

    def work(self):
        """Return about how much work was done: more for each set if there are more states."""
        return len(self.rows) * len(self.steps[0])

    def grow(self):
        """Follow one more set by all letters."""
        states = bits_of(self.found[len(self.rows)])
        row = []
        for step in self.steps:
            behind = 0
            for state in states:
                behind = behind | step[state]
            if behind not in self.numbers:
                self.numbers[behind] = len(self.found)
                self.found.append(behind)
            row.append(self.numbers[behind])
        self.rows.append(row)

    def numbers_with(self, states):
        """Return the numbers of the sets that were found and have one of some states."""
        return [number for number, found in enumerate(self.found) if found & states != 0]


def _turned(rows):
    # The step that leads back from each state to those whose row of targets has it.
    back = [0] * len(rows)
    for state, targets in enumerate(rows):
        for target in targets:
            back[target] = back[target] | (1 << state)
    return back


def sets_automaton(first, steps, finals):
    """Return the least automaton of the words that lead from some state of the first set to some
    final one."""
    back_steps = [_turned([bits_of(targets) for targets in step]) for step in steps]
    live = _states_before(back_steps, finals)
    # The sets can be very many in one direction and few in the other one.
    forth = StateSets(first & live, [[targets & live for targets in step] for step in steps])
    back = StateSets(finals, back_steps)
    _grow_one(forth, back)
    if not forth.is_whole():
        back = _turned_sets(back, first)
        _grow_one(forth, back)
    if forth.is_whole():
        return _automaton_of(forth, finals)
    return _automaton_of(back, 1)


def _grow_one(one, other):
    # Grows both until one of them is whole, always the one on which less work was done.
    while not one.is_whole() and not other.is_whole():
        if one.work() <= other.work():
            one.grow()
        else:
            other.grow()


def _states_before(back_steps, finals):
    # The states from which some word leads to a final one.
    live = finals
    found = bits_of(finals)
    at = 0
    while at < len(found):
        for step in back_steps:
            more = (step[found[at]] | live) ^ live
            live = live | more
            found.extend(bits_of(more))
        at += 1
    return live


def _automaton_of(sets, finals):
    return least(Automaton(len(sets.steps), 0, sets.numbers_with(finals), sets.rows))


def _turned_sets(sets, ends):
    # Sets of the numbers of the sets that were found on the way back. Of two different ones some
    # number is in one only, and the words that led to it on the way back end in this one only: so
    # there are no more of them than the least automaton has states.
    letters = list(range(len(sets.steps)))
    steps = [_turned([[row[letter]] for row in sets.rows]) for letter in letters]
    return StateSets(mask_of(sets.numbers_with(ends)), steps)
