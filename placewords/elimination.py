"""Expressions of automata, by taking away one state after the other."""

from placewords.automata import final_marks

NONE = ("none",)
EMPTY = ("empty",)


def expression_of(automaton):
    """Return an expression of the words that an automaton accepts, read letter by letter. Only
    words that lead from a state back to itself, and from there on to the end, are repeated."""
    states = _useful_states(automaton)
    if automaton.start not in states:
        return NONE
    # Two more states stand ahead of the start state and behind the final ones.
    first = len(automaton.rows)
    last = first + 1
    edges = _edges(automaton, states)
    edges[(first, automaton.start)] = EMPTY
    for state in automaton.finals:
        if state in states:
            edges[(state, last)] = EMPTY
    left = states
    while len(left) > 0:
        state = _cheapest(edges, left)
        left = [other for other in left if other != state]
        edges = _without(edges, state)
    return edges.get((first, last), NONE)


def _useful_states(automaton):
    # From a state that is not useful no word leads to the end. All others are reached, since the
    # automaton is least.
    marks = final_marks(automaton)
    changed = True
    while changed:
        changed = False
        for state, row in enumerate(automaton.rows):
            if not marks[state] and any([marks[target] for target in row]):
                marks[state] = True
                changed = True
    return [state for state in range(len(marks)) if marks[state]]


def _edges(automaton, states):
    edges = {}
    for state in states:
        for letter, target in enumerate(automaton.rows[state]):
            if target in states:
                old = edges.get((state, target), NONE)
                edges[(state, target)] = _either(old, ("letter", letter))
    return edges


def _cheapest(edges, states):
    # The state through which the fewest pairs of edges lead; the first one of several.
    best = states[0]
    for state in states:
        if _cost(edges, state) < _cost(edges, best):
            best = state
    return best


def _cost(edges, state):
    into = [pair for pair in edges if pair[1] == state and pair[0] != state]
    out = [pair for pair in edges if pair[0] == state and pair[1] != state]
    return len(into) * len(out)


def _without(edges, state):
    turn = _star(edges.get((state, state), NONE))
    kept = {pair: edges[pair] for pair in edges if state not in pair}
    into = [pair[0] for pair in edges if pair[1] == state and pair[0] != state]
    out = [pair[1] for pair in edges if pair[0] == state and pair[1] != state]
    for source in into:
        for target in out:
            way = _join(_join(edges[(source, state)], turn), edges[(state, target)])
            kept[(source, target)] = _either(kept.get((source, target), NONE), way)
    return kept


def _either(first, second):
    if first == NONE or first == second:
        return second
    return ("either", first, second)


def _join(first, second):
    if first == EMPTY:
        return second
    if second == EMPTY:
        return first
    return ("join", first, second)


def _star(expression):
    if expression == NONE:
        return EMPTY
    return ("star", expression)
