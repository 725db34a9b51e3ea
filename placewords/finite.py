"""Automata of all orders of a few words."""

from placewords.explored import explored
from placewords.forms import is_ready, moved_heads
from placewords.words import place_words


def finite_automaton(alphabet, words):
    """Return the least automaton of all words that are equivalent to one of the words."""
    rows = [place_words(alphabet, word) for word in words]
    ends = [tuple([len(queue) for queue in row]) for row in rows]

    # Nodes have for each word its heads behind the letters that came, None if they do not fit.
    def step(node, letter):
        return tuple([
            _heads_behind(alphabet, queues, heads, letter) for queues, heads in zip(rows, node)
        ])

    def is_end(node):
        return any([reached == end for reached, end in zip(node, ends)])

    first = tuple([tuple([0] * alphabet.places)] * len(rows))
    return explored(len(alphabet.letters), first, step, is_end)


def _heads_behind(alphabet, queues, heads, letter):
    if heads is None or not is_ready(alphabet, queues, heads, letter):
        return None
    return moved_heads(alphabet, heads, letter)
