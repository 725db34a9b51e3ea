"""Teams whose places have automata of their own."""

from placewords.errors import InvalidTeam
from placewords.teams import MOST_STATES, Team, combination_of, rank_count


def product_team(alphabet, automata):
    """Return the team in which each place goes on as its automaton does."""
    sizes = [len(automaton.rows) for automaton in automata]
    if any([size > MOST_STATES for size in sizes]):
        raise InvalidTeam("an automaton of a place has more than 5 states")
    tables = [
        _table([automata[place] for place in places], letter)
        for letter, places in enumerate(alphabet.letters)
    ]
    finals = [
        rank for rank, combination in enumerate(_combinations(automata))
        if all([state in one.finals for one, state in zip(automata, combination)])
    ]
    return Team(alphabet, sizes, [one.start for one in automata], tables, finals)


def _combinations(automata):
    sizes = [len(automaton.rows) for automaton in automata]
    return [combination_of(sizes, rank) for rank in range(rank_count(sizes))]


def _table(automata, letter):
    return [
        [one.rows[state][letter] for one, state in zip(automata, combination)]
        for combination in _combinations(automata)
    ]
