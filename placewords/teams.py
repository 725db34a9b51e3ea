"""Teams: states at the places, which letters change by tables."""

from placewords.errors import InvalidTeam
from placewords.explored import explored

MOST_STATES = 5


class Team:
    """For each place a number of states and a first state, for each letter a table, and the ranks
    of the final combinations of states of all places."""

    def __init__(self, alphabet, sizes, starts, tables, finals):
        check_parts(alphabet, sizes, tables, finals)
        check_combination(sizes, starts)
        for places, table in zip(alphabet.letters, tables):
            own_sizes = [sizes[place] for place in places]
            for combination in table:
                check_combination(own_sizes, combination)
        self.alphabet = alphabet
        self.sizes = tuple(sizes)
        self.starts = tuple(starts)
        self.tables = tuple([tuple([tuple(row) for row in table]) for table in tables])
        self.finals = tuple(finals)


def check_parts(alphabet, sizes, tables, finals):
    """Raise InvalidTeam if the numbers of states or the ranks of final combinations are refused,
    or if there is not one table for each letter, and in it one row for each rank."""
    _check_sizes(alphabet, sizes)
    if len(tables) != len(alphabet.letters):
        raise InvalidTeam("a team has one table for each letter")
    for places, table in zip(alphabet.letters, tables):
        if len(table) != rank_count([sizes[place] for place in places]):
            raise InvalidTeam("a table has one row for each rank")
    _check_finals(rank_count(sizes), finals)


def _check_sizes(alphabet, sizes):
    if len(sizes) != alphabet.places:
        raise InvalidTeam("a team has a number of states for each place")
    for size in sizes:
        if not 1 <= size <= MOST_STATES:
            raise InvalidTeam("a place of a team has 1 to 5 states")


def _check_finals(many, finals):
    for rank in finals:
        if not 0 <= rank < many:
            raise InvalidTeam("the rank of a final combination is not there")
    for index in range(1, len(finals)):
        if finals[index - 1] >= finals[index]:
            raise InvalidTeam("the ranks of the final combinations do not ascend")


def check_combination(sizes, combination):
    """Raise InvalidTeam if a combination does not have a state for each place, or one that is not
    there."""
    if len(combination) != len(sizes):
        raise InvalidTeam("a combination has one state for each place")
    for size, state in zip(sizes, combination):
        if not 0 <= state < size:
            raise InvalidTeam("a state is not there")


def rank_count(sizes):
    """Return the number of combinations for places with these numbers of states."""
    many = 1
    for size in sizes:
        many = many * size
    return many


def rank_of(sizes, combination):
    """Return the rank of a combination for places with these numbers of states."""
    rank = 0
    for size, state in zip(sizes, combination):
        rank = rank * size + state
    return rank


def combination_of(sizes, rank):
    """Return the combination with a rank for places with these numbers of states."""
    states = []
    for size in reversed(sizes):
        states.append(rank % size)
        rank = rank // size
    return tuple(reversed(states))


def row_behind(team, combination, letter):
    """Return what the table of a letter has for a combination of states of all places."""
    places = team.alphabet.letters[letter]
    sizes = [team.sizes[place] for place in places]
    return team.tables[letter][rank_of(sizes, [combination[place] for place in places])]


def changed(team, combination, letter, states):
    """Return a combination of states of all places with other states at the places of a letter."""
    behind = list(combination)
    for place, state in zip(team.alphabet.letters[letter], states):
        behind[place] = state
    return tuple(behind)


def _next_combination(team, combination, letter):
    return changed(team, combination, letter, row_behind(team, combination, letter))


def team_state(team, word):
    """Return the combination of the states of all places behind a word."""
    combination = team.starts
    for letter in word:
        combination = _next_combination(team, combination, letter)
    return combination


def is_final(team, combination):
    """Tell whether a combination of states of all places is final."""
    return rank_of(team.sizes, combination) in team.finals


def team_accepts(team, word):
    """Tell whether the combination behind a word is final."""
    return is_final(team, team_state(team, word))


def team_automaton(team):
    """Return the least automaton of the set of a team."""
    return explored(
        len(team.alphabet.letters),
        team.starts,
        lambda combination, letter: _next_combination(team, combination, letter),
        lambda combination: is_final(team, combination),
    )
