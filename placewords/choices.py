"""Teams with choices: letters that may change the states of their places in several ways."""

from placewords.bits import mask_of
from placewords.errors import InvalidTeam
from placewords.statesets import sets_automaton
from placewords.teams import changed, check_combination, check_parts, is_final, row_behind


class ChoiceTeam:
    """A team with several starts, and with tables that have lists of combinations."""

    def __init__(self, alphabet, sizes, starts, tables, finals):
        check_parts(alphabet, sizes, tables, finals)
        if len(starts) == 0:
            raise InvalidTeam("a team has at least one start")
        for combination in starts:
            check_combination(sizes, combination)
        for places, table in zip(alphabet.letters, tables):
            own_sizes = [sizes[place] for place in places]
            for row in table:
                for combination in row:
                    check_combination(own_sizes, combination)
        self.alphabet = alphabet
        self.sizes = tuple(sizes)
        self.starts = tuple([tuple(start) for start in starts])
        self.tables = tuple([_tuples(table) for table in tables])
        self.finals = tuple(finals)


def _tuples(table):
    return tuple([tuple([tuple(states) for states in row]) for row in table])


def _next_combinations(team, combination, letter):
    row = row_behind(team, combination, letter)
    return [changed(team, combination, letter, states) for states in row]


def choice_accepts(team, word):
    """Tell whether some choices lead from some start to a final combination."""
    reached = sorted(set(team.starts))
    for letter in word:
        behind = [after for before in reached for after in _next_combinations(team, before, letter)]
        reached = sorted(set(behind))
    return any([is_final(team, combination) for combination in reached])


def choice_automaton(team):
    """Return the least automaton of the set of a team with choices."""
    letters = list(range(len(team.alphabet.letters)))
    numbers = {}
    for combination in team.starts:
        numbers.setdefault(combination, len(numbers))
    first = (1 << len(numbers)) - 1
    found = list(numbers)
    masks = []
    # Only combinations that can be reached get a number.
    while len(masks) < len(found):
        behind = [_next_combinations(team, found[len(masks)], letter) for letter in letters]
        for combination in [after for row in behind for after in row]:
            if combination not in numbers:
                numbers[combination] = len(found)
                found.append(combination)
        masks.append([mask_of([numbers[after] for after in row]) for row in behind])
    steps = [[row[letter] for row in masks] for letter in letters]
    finals = [number for number, combination in enumerate(found) if is_final(team, combination)]
    return sets_automaton(first, steps, mask_of(finals))
