"""Place sets, and words that a set implies by what it has at each place."""

from placewords.automata import final_marks, least
from placewords.bits import mask_of
from placewords.paths import first_word
from placewords.remainders import ending_marks
from placewords.statesets import sets_automaton


def place_set(alphabet, automaton, place):
    """Return the least automaton of the words of a place of all words of a set."""
    small = least(automaton)
    masks = _silent_masks(alphabet, small, place)
    steps = [
        [masks[row[letter]] if place in places else 0 for row in small.rows]
        for letter, places in enumerate(alphabet.letters)
    ]
    first = masks[small.start]
    finals = mask_of(small.finals)
    return sets_automaton(first, steps, finals)


def _silent_masks(alphabet, automaton, place):
    # For each state the bits of the states to which words lead that never happen at the place.
    silent = [
        letter for letter in range(automaton.letters) if place not in alphabet.letters[letter]
    ]
    masks = []
    for state in range(len(automaton.rows)):
        found = [state]
        seen = {state: True}
        at = 0
        while at < len(found):
            row = automaton.rows[found[at]]
            for letter in silent:
                if row[letter] not in seen:
                    seen[row[letter]] = True
                    found.append(row[letter])
            at += 1
        masks.append(mask_of(found))
    return masks


def implied_word(alphabet, automaton):
    """Return the shortest and then least implied word that is not in the set, or None."""
    small = least(automaton)
    marks = final_marks(small)
    sets = [place_set(alphabet, small, at) for at in range(alphabet.places)]
    ends = [final_marks(one) for one in sets]
    letters = list(range(small.letters))
    live = [ending_marks(one, letters) for one in sets]

    # Nodes are pairs of the state of the set and the tuple of the states of the place sets.
    def step(node, letter):
        behind = list(node[1])
        for place in alphabet.letters[letter]:
            behind[place] = sets[place].rows[behind[place]][letter]
            if not live[place][behind[place]]:
                return None
        return (small.rows[node[0]][letter], tuple(behind))

    def is_missing(node):
        if marks[node[0]]:
            return False
        return all([ends[index][state] for index, state in enumerate(node[1])])

    first = (small.start, tuple([one.start for one in sets]))
    return first_word(small.letters, first, step, is_missing)
