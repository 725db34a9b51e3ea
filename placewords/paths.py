"""Words that lead from the beginning of a breadth-first search to what it found."""


def spelled(came_from, node):
    """Return the word that leads to a node: came_from has for each node the pair (node, letter)
    from which it was first reached, and None for the node at which the search began."""
    letters = []
    step = came_from[node]
    while step is not None:
        before, letter = step
        letters.append(letter)
        step = came_from[before]
    return tuple(reversed(letters))


def first_word(letters, first, step, is_wanted):
    """Return the shortest and then least word that leads from the first node to a wanted one, or
    None. step gives the node behind a node and a letter, None if nothing wanted lies behind it."""
    nodes = [first]
    came_from = {first: None}
    at = 0
    # Nodes are found in the order of the shortest and then least words that lead to them.
    while at < len(nodes):
        if is_wanted(nodes[at]):
            return spelled(came_from, nodes[at])
        for letter in range(letters):
            node = step(nodes[at], letter)
            if node is not None and node not in came_from:
                came_from[node] = (nodes[at], letter)
                nodes.append(node)
        at += 1
    return None
