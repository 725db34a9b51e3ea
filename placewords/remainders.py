"""What an automaton accepts from a state on, when some letters are barred.

A number tells with its bits which letters are barred. States that accept the same words without
barred letters are one and the same for whoever goes on without these letters."""

from placewords.automata import final_marks, state_classes


class Remainders:
    """For each number of barred letters, a list that tells of each state by which one it can be
    replaced: equal states are replaced by the same one. -1 stands for states that accept no word
    without barred letters from there on. The lists are made when they are first needed."""

    def __init__(self, automaton):
        self.automaton = automaton
        self.made = {}
        self.made_longer = {}

    def states(self, barred):
        """Return the list for all words without barred letters."""
        if barred not in self.made:
            self.made[barred] = self._new_states(self._allowed(barred))
        return self.made[barred]

    def longer_states(self, barred):
        """Return the list for all words without barred letters but the empty word."""
        if barred not in self.made_longer:
            states = self.states(barred)
            allowed = self._allowed(barred)
            kinds = [
                tuple([states[row[letter]] for letter in allowed]) for row in self.automaton.rows
            ]
            live = [any([target >= 0 for target in kind]) for kind in kinds]
            self.made_longer[barred] = _first_of_each(kinds, live)
        return self.made_longer[barred]

    def _allowed(self, barred):
        return [letter for letter in range(self.automaton.letters) if barred & (1 << letter) == 0]

    def _new_states(self, allowed):
        automaton = self.automaton
        many = len(automaton.rows)
        classes = state_classes(automaton, list(range(many)), allowed)
        live = ending_marks(automaton, allowed)
        return _first_of_each([classes[state] for state in range(many)], live)


def _first_of_each(kinds, live):
    first = {}
    return [
        first.setdefault(kind, state) if live[state] else -1 for state, kind in enumerate(kinds)
    ]


def ending_marks(automaton, allowed):
    """Return a list that tells of each state whether some word of allowed letters, perhaps the
    empty one, leads from it to a final state."""
    marks = final_marks(automaton)
    changed = True
    while changed:
        changed = False
        for state, row in enumerate(automaton.rows):
            if not marks[state] and any([marks[row[letter]] for letter in allowed]):
                marks[state] = True
                changed = True
    return marks
