"""Closed sets, faults of closure, and the automaton of all least words."""

from placewords.alphabets import independent, independent_pairs
from placewords.automata import final_marks, least
from placewords.explored import explored
from placewords.paths import spelled


def is_closed(alphabet, automaton):
    """Tell whether the set of an automaton has with each word all equivalent words."""
    # In a least automaton different states are never equal in what they accept from there on.
    rows = least(automaton).rows
    for a, b in independent_pairs(alphabet):
        for row in rows:
            if rows[row[a]][b] != rows[row[b]][a]:
                return False
    return True


def closed_fault(alphabet, automaton):
    """Return a shortest fault of closure, a pair of words, or None if the set is closed."""
    small = least(automaton)
    marks = final_marks(small)
    swappable = independent_pairs(alphabet)
    # Nodes are (state,) ahead of the swap, (state, a, b) between the two letters of the swap,
    # and (state, state) behind it. Each step has a pair of letters, one for each word.
    nodes = [(small.start,)]
    came_from = {nodes[0]: None}
    at = 0
    while at < len(nodes):
        node = nodes[at]
        if len(node) == 2 and marks[node[0]] and not marks[node[1]]:
            pairs = spelled(came_from, node)
            return (tuple([one for one, _ in pairs]), tuple([other for _, other in pairs]))
        for following, letters in _steps(small.rows, swappable, node):
            if following not in came_from:
                came_from[following] = (node, letters)
                nodes.append(following)
        at += 1
    return None


def _steps(rows, swappable, node):
    if len(node) == 1:
        row = rows[node[0]]
        steps = [((row[letter],), (letter, letter)) for letter in range(len(row))]
        return steps + [((node[0], a, b), (a, b)) for a, b in swappable]
    if len(node) == 3:
        state, a, b = node
        return [((rows[rows[state][a]][b], rows[rows[state][b]][a]), (b, a))]
    one, other = node
    if one == other:
        return []
    return [
        ((rows[one][letter], rows[other][letter]), (letter, letter))
        for letter in range(len(rows[one]))
    ]


def least_words(alphabet):
    """Return the least automaton of all least words."""
    # A state is the tuple of the letters that could have come earlier, ahead of a greater one,
    # and so may not come now; None stands behind a word that is not least.
    return explored(
        len(alphabet.letters),
        (),
        lambda state, letter: _barred(alphabet, state, letter),
        lambda state: state is not None,
    )


def _barred(alphabet, state, letter):
    if state is None or letter in state:
        return None
    return tuple([
        other
        for other in range(len(alphabet.letters))
        if independent(alphabet, other, letter) and (other in state or other < letter)
    ])
