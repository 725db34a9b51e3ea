"""Automata whose states are found one after the other, from a first one on."""

from placewords.automata import Automaton, least


def explored(letters, first, step, is_end):
    """Return the least automaton of the words that lead from the first node to an end. step gives
    the node behind a node and a letter; is_end tells of a node whether it is an end."""
    nodes = [first]
    numbers = {first: 0}
    rows = []
    while len(rows) < len(nodes):
        row = []
        for letter in range(letters):
            node = step(nodes[len(rows)], letter)
            if node not in numbers:
                numbers[node] = len(nodes)
                nodes.append(node)
            row.append(numbers[node])
        rows.append(row)
    ends = [number for number, node in enumerate(nodes) if is_end(node)]
    return least(Automaton(letters, 0, ends, rows))
