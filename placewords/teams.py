"""Teams: states at the places, which letters change by tables."""

from placewords.errors import InvalidTeam
from placewords.explored import explored

MOST_STATES = 5


class Team:
    """For each place a number of states and a first state, for each letter a table, and the ranks
    of the final combinations of states of all places."""

    def __init__(self, alphabet, sizes, starts, tables, finals):
        _check_sizes(alphabet, sizes)
        _check_combination(sizes, starts)
        if len(tables) != len(alphabet.letters):
            raise InvalidTeam("a team has one table for each letter")
        for places, table in zip(alphabet.letters, tables):
            _check_table([sizes[place] for place in places], table)
        _check_finals(_rank_count(sizes), finals)
        self.alphabet = alphabet
        self.sizes = tuple(sizes)
        self.starts = tuple(starts)
        self.tables = tuple([tuple([tuple(row) for row in table]) for table in tables])
        self.finals = tuple(finals)


def _check_sizes(alphabet, sizes):
    if len(sizes) != alphabet.places:
        raise InvalidTeam("a team has a number of states for each place")
    for size in sizes:
        if not 1 <= size <= MOST_STATES:
            raise InvalidTeam("a place of a team has 1 to 5 states")


def _check_combination(sizes, combination):
    if len(combination) != len(sizes):
        raise InvalidTeam("a combination has one state for each place")
    for size, state in zip(sizes, combination):
        if not 0 <= state < size:
            raise InvalidTeam("a state is not there")


def _check_table(sizes, table):
    if len(table) != _rank_count(sizes):
        raise InvalidTeam("a table has one combination for each rank")
    for combination in table:
        _check_combination(sizes, combination)


def _check_finals(many, finals):
    for rank in finals:
        if not 0 <= rank < many:
            raise InvalidTeam("the rank of a final combination is not there")
    for index in range(1, len(finals)):
        if finals[index - 1] >= finals[index]:
            raise InvalidTeam("the ranks of the final combinations do not ascend")


def _rank_count(sizes):
    many = 1
    for size in sizes:
        many = many * size
    return many


def rank_of(sizes, combination):
    """Return the rank of a combination for places with these numbers of states."""
    rank = 0
    for size, state in zip(sizes, combination):
        rank = rank * size + state
    return rank


def combination_of(sizes, rank):
    """Return the combination with a rank for places with these numbers of states."""
    states = []
    for size in reversed(sizes):
        states.append(rank % size)
        rank = rank // size
    return tuple(reversed(states))


def _changed(team, combination, letter):
    # The combination of the states of all places behind one more letter.
    places = team.alphabet.letters[letter]
    sizes = [team.sizes[place] for place in places]
    rank = rank_of(sizes, [combination[place] for place in places])
    states = list(combination)
    for place, state in zip(places, team.tables[letter][rank]):
        states[place] = state
    return tuple(states)


def team_state(team, word):
    """Return the combination of the states of all places behind a word."""
    combination = team.starts
    for letter in word:
        combination = _changed(team, combination, letter)
    return combination


def _is_final(team, combination):
    return rank_of(team.sizes, combination) in team.finals


def team_accepts(team, word):
    """Tell whether the combination behind a word is final."""
    return _is_final(team, team_state(team, word))


def team_automaton(team):
    """Return the least automaton of the set of a team."""
    return explored(
        len(team.alphabet.letters),
        team.starts,
        lambda combination, letter: _changed(team, combination, letter),
        lambda combination: _is_final(team, combination),
    )
