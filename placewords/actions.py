"""Actions of words on automata, and sets on whose least automaton all words settle."""

from placewords.automata import least
from placewords.errors import TooLarge

MOST_ACTIONS = 400


def action(automaton, word):
    """Return the tuple of the states in which a word ends, from each state on."""
    states = tuple(range(len(automaton.rows)))
    for letter in word:
        states = _longer(automaton, states, letter)
    return states


def _longer(automaton, states, letter):
    return tuple([automaton.rows[state][letter] for state in states])


def actions(automaton):
    """Return the table of the actions of the set of an automaton: pairs of the shortest and then
    least word with an action, and the action, in the order of the words."""
    small = least(automaton)
    table = [((), action(small, ()))]
    seen = {table[0][1]: True}
    at = 0
    while at < len(table):
        word, states = table[at]
        for letter in range(small.letters):
            following = _longer(small, states, letter)
            if following not in seen:
                if len(table) == MOST_ACTIONS:
                    raise TooLarge("the set has more than 400 actions")
                seen[following] = True
                table.append(((*word, letter), following))
        at += 1
    return table


def unsettled_word(automaton):
    """Return the first word of the table of actions that does not settle, or None."""
    for word, states in actions(automaton):
        if not _settles(states):
            return word
    return None


def _settles(states):
    # Powers settle if and only if they have settled at any exponent from the number of states on.
    power = states
    exponent = 1
    while exponent < len(states):
        power = tuple([power[state] for state in power])
        exponent = 2 * exponent
    return tuple([states[state] for state in power]) == power
