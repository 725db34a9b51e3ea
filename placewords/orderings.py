"""All orders of a word at once: a value for each cut of it and each state that orders lead to."""

from placewords.automata import final_marks
from placewords.forms import moved_heads, ready_letters
from placewords.words import place_words


def order_values(alphabet, automaton, word, first, longer, merged):
    """Return the values of the accepted orders of a word, several of which may be merged: first is
    the value of the empty word; longer gives the value behind a value, the heads in the queues of
    all places, and a letter; merged gives the value of two that lead to the same cut and state."""
    queues = place_words(alphabet, word)
    values = {(tuple([0] * alphabet.places), automaton.start): first}
    for _ in range(len(word)):
        following = {}
        for (heads, state), value in values.items():
            for letter in ready_letters(alphabet, queues, heads):
                node = (moved_heads(alphabet, heads, letter), automaton.rows[state][letter])
                found = longer(value, heads, letter)
                following[node] = merged(following[node], found) if node in following else found
        values = following
    marks = final_marks(automaton)
    return [value for (_, state), value in values.items() if marks[state]]
