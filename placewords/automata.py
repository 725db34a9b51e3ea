"""Automata, the words that they accept, and least automata."""

from placewords.errors import InvalidAutomaton


class Automaton:
    """States 0, 1, .. with a start, final states and, for each state and letter, a next state."""

    def __init__(self, letters, start, finals, rows):
        if letters < 1:
            raise InvalidAutomaton("an automaton has at least one letter")
        if len(rows) == 0:
            raise InvalidAutomaton("an automaton has at least one state")
        _check_states(len(rows), [start])
        _check_states(len(rows), finals)
        for index in range(1, len(finals)):
            if finals[index - 1] >= finals[index]:
                raise InvalidAutomaton("the final states do not ascend")
        for row in rows:
            if len(row) != letters:
                raise InvalidAutomaton("a row does not have a state for each letter")
            _check_states(len(rows), row)
        self.letters = letters
        self.start = start
        self.finals = tuple(finals)
        self.rows = tuple([tuple(row) for row in rows])


def _check_states(many, states):
    for state in states:
        if not 0 <= state < many:
            raise InvalidAutomaton("a state is not there")


def state_after(automaton, word):
    """Return the state behind a word, from the start state on."""
    state = automaton.start
    for letter in word:
        state = automaton.rows[state][letter]
    return state


def accepts(automaton, word):
    """Tell whether the state behind a word is final."""
    return state_after(automaton, word) in automaton.finals


def final_marks(automaton):
    """Return a list that tells of each state whether it is final."""
    marks = [False] * len(automaton.rows)
    for state in automaton.finals:
        marks[state] = True
    return marks


def least(automaton):
    """Return the least automaton of the set of an automaton."""
    classes = state_classes(automaton, _reached_states(automaton), list(range(automaton.letters)))
    # One state stands for each class; they are numbered as they are first reached.
    numbers = {classes[automaton.start]: 0}
    chosen = [automaton.start]
    rows = []
    while len(rows) < len(chosen):
        row = []
        for state in automaton.rows[chosen[len(rows)]]:
            if classes[state] not in numbers:
                numbers[classes[state]] = len(chosen)
                chosen.append(state)
            row.append(numbers[classes[state]])
        rows.append(row)
    marks = final_marks(automaton)
    finals = [number for number, state in enumerate(chosen) if marks[state]]
    return Automaton(automaton.letters, 0, finals, rows)


def _reached_states(automaton):
    found = [automaton.start]
    seen = {automaton.start: True}
    at = 0
    while at < len(found):
        for state in automaton.rows[found[at]]:
            if state not in seen:
                seen[state] = True
                found.append(state)
        at += 1
    return found


def state_classes(automaton, states, letters):
    """Return for each of some states the number of its class: states of one class accept the same
    words of the letters from there on. The states have all next states of theirs among them."""
    # Classes are split by the classes of the next states until no class is split any more.
    marks = final_marks(automaton)
    classes = {state: (1 if marks[state] else 0) for state in states}
    many = 0
    kinds = {}
    while many == 0 or len(kinds) > many:
        many = len(kinds)
        kinds = {}
        following = {}
        for state in states:
            row = automaton.rows[state]
            kind = (classes[state], tuple([classes[row[letter]] for letter in letters]))
            if kind not in kinds:
                kinds[kind] = len(kinds)
            following[state] = kinds[kind]
        classes = following
    return classes
