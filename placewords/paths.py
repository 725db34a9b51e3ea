"""Words that lead from the beginning of a breadth-first search to what it found."""


def spelled(came_from, node):
    """Return the word that leads to a node: came_from has for each node the pair (node, letter)
    from which it was first reached, and None for the node at which the search began."""
    letters = []
    step = came_from[node]
    while step is not None:
        before, letter = step
        letters.append(letter)
        step = came_from[before]
    return tuple(reversed(letters))
