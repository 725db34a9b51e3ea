"""Sets of states, as numbers with the bits of the states, that are found one after the other."""


class StateSets:
    """The sets to which words lead from a first one on. A step has for each letter a row with the
    set to which the letter leads from each single state."""

    def __init__(self, first, steps):
        self.steps = tuple([tuple(row) for row in steps])
        self.bits = tuple([1 << state for state in range(len(self.steps[0]))])
        self.found = [first]
        self.numbers = {first: 0}
        self.rows = []

    def is_whole(self):
        """Tell whether all sets were followed by all letters."""
        return len(self.rows) == len(self.found)

    def grow(self):
        """Follow one more set by all letters."""
        states = self.found[len(self.rows)]
        row = []
        for step in self.steps:
            behind = 0
            for bit, targets in zip(self.bits, step):
                if states & bit != 0:
                    behind = behind | targets
            if behind not in self.numbers:
                self.numbers[behind] = len(self.found)
                self.found.append(behind)
            row.append(self.numbers[behind])
        self.rows.append(row)

    def numbers_with(self, states):
        """Return the numbers of the sets that were found and have one of some states."""
        return [number for number, found in enumerate(self.found) if found & states != 0]


def turned(steps):
    """Return the steps that lead back from each state to those from which the steps lead to it."""
    turned_steps = []
    for step in steps:
        back = [0] * len(step)
        for state, targets in enumerate(step):
            for target in _states_of(targets):
                back[target] = back[target] | (1 << state)
        turned_steps.append(back)
    return turned_steps


def _states_of(states):
    found = []
    while states != 0:
        found.append(states.bit_length() - 1)
        states = states ^ (1 << found[-1])
    return found
