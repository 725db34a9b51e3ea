"""Orders of a word that an automaton accepts."""

from placewords.orderings import order_values


def accepted_order(alphabet, automaton, word):
    """Return the least order of a word that an automaton accepts, or None."""
    orders = order_values(
        alphabet,
        automaton,
        word,
        (),
        lambda order, heads, letter: (*order, letter),
        lambda one, other: min(one, other),
    )
    return min(orders, default=None)


def accepted_orders(alphabet, automaton, word):
    """Return the number of orders of a word that an automaton accepts."""
    counts = order_values(
        alphabet,
        automaton,
        word,
        1,
        lambda count, heads, letter: count,
        lambda one, other: one + other,
    )
    return sum(counts)
