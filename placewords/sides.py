"""Products of places: sets of the words that an automaton at each place accepts."""

from placewords.bits import mask_of
from placewords.explored import explored
from placewords.remainders import Remainders


def place_product(alphabet, automata):
    """Return the least automaton of the words whose word of each place is accepted by the automaton
    of this place."""
    kinds = [_kinds(alphabet, place, automaton) for place, automaton in enumerate(automata)]

    # Nodes have a state for each place; None stands where no word of the set goes on.
    def step(node, letter):
        if node is None:
            return None
        behind = list(node)
        for place in alphabet.letters[letter]:
            behind[place] = kinds[place][automata[place].rows[behind[place]][letter]]
        return _node(behind)

    def is_end(node):
        if node is None:
            return False
        return all([state in automata[place].finals for place, state in enumerate(node)])

    starts = [kinds[place][automaton.start] for place, automaton in enumerate(automata)]
    return explored(len(alphabet.letters), _node(starts), step, is_end)


def _kinds(alphabet, place, automaton):
    # For each state the one by which it can be replaced, as only letters of the place come.
    elsewhere = [at for at, places in enumerate(alphabet.letters) if place not in places]
    return Remainders(automaton).states(mask_of(elsewhere))


def _node(states):
    return None if -1 in states else tuple(states)
