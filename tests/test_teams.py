import itertools
import random
import unittest

from placewords.alphabets import Alphabet
from placewords.automata import accepts
from placewords.closure import closed_fault
from placewords.errors import InvalidTeam
from placewords.teams import Team, combination_of, rank_of, team_accepts, team_automaton, team_state

from tests.samples import (
    ALPHABETS, CHAIN, FREE, MIXED, RING, SHARED, is_numbered_and_least, random_word, short_words, words_up_to,
)


def combinations(sizes):
    return list(itertools.product(*[range(size) for size in sizes]))


def drawn_parts(rng, alphabet, most=3):
    sizes = [rng.randint(1, most) for _ in range(alphabet.places)]
    starts = [rng.randrange(size) for size in sizes]
    tables = []
    for places in alphabet.letters:
        own = combinations([sizes[place] for place in places])
        tables.append([rng.choice(own) for _ in own])
    finals = [rank for rank in range(len(combinations(sizes))) if rng.random() < 0.4]
    return sizes, starts, tables, finals


def plain_state(alphabet, sizes, starts, tables, word):
    """Letter by letter, with the tables as dicts."""
    states = list(starts)
    for letter in word:
        places = alphabet.letters[letter]
        table = dict(zip(combinations([sizes[place] for place in places]), tables[letter]))
        for place, state in zip(places, table[tuple(states[place] for place in places)]):
            states[place] = state
    return tuple(states)


class TeamTest(unittest.TestCase):
    parts = ([2, 2], [0, 0], [[(1,), (1,)], [(0,), (0,)], [(0, 0), (0, 1), (0, 1), (0, 0)]], [1, 3])

    def refused(self, at, value, alphabet=SHARED):
        parts = list(self.parts)
        parts[at] = value
        with self.assertRaises(InvalidTeam):
            Team(alphabet, *parts)

    def test_the_example(self):
        tables = [[(1,), (1,)], [(0, 0), (0, 1), (0, 1), (0, 0)]]
        team = Team(Alphabet(2, [(0,), (0, 1)]), [2, 2], [0, 0], tables, [1])
        self.assertEqual(team_state(team, (0, 1)), (0, 1))

    def test_attributes(self):
        sizes, starts, tables, finals = [2, 2], [0, 1], [[[1], [1]], [(0,), [0]], [(0, 0)] * 4], [1, 3]
        team = Team(SHARED, sizes, starts, tables, finals)
        sizes[0] = 5
        starts.append(0)
        tables[0][0][0] = 0
        tables[2][0] = (1, 1)
        tables.pop()
        finals.clear()
        self.assertIs(team.alphabet, SHARED)
        self.assertEqual((team.sizes, team.starts, team.finals), ((2, 2), (0, 1), (1, 3)))
        self.assertEqual(team.tables, (((1,), (1,)), ((0,), (0,)), ((0, 0),) * 4))
        team = Team(SHARED, (2, 2), (0, 0), tuple(self.parts[2]), (0,))
        self.assertEqual((team.sizes, team.starts, team.finals), ((2, 2), (0, 0), (0,)))

    def test_arguments_are_not_modified(self):
        parts = [list(part) for part in self.parts]
        Team(SHARED, *parts)
        self.assertEqual(tuple(parts), self.parts)

    def test_sizes(self):
        Team(SHARED, *self.parts)
        tables = [[(0,)] * 5, [(4,)], [(4, 0)] * 5]
        Team(SHARED, [5, 1], [4, 0], [[(0,)] * 5, [(0,)], tables[2]], [0, 4])
        for sizes in ([0, 2], [2, 0], [6, 2], [2, 6], [-1, 2], [], [2], [2, 2, 2], [1, 2], [2, 3]):
            self.refused(0, sizes)
        for sizes in ([2], [2, 2, 1], [2, 2, 2]):
            with self.assertRaises(InvalidTeam):
                Team(SHARED, sizes, [0] * len(sizes), *self.parts[2:])
        with self.assertRaises(InvalidTeam):
            Team(FREE, [6, 1], [0, 0], [[(0,)] * 6, [(0,)]], [])
        with self.assertRaises(InvalidTeam):
            Team(FREE, [0, 1], [0, 0], [[], [(0,)]], [])

    def test_starts(self):
        for starts in ([], [0], [0, 0, 0], [2, 0], [0, 2], [-1, 0], [0, -1]):
            self.refused(1, starts)

    def test_tables(self):
        good = self.parts[2]
        for tables in (
            [], good[:2], good + [[(0,), (0,)]],
            [[(1,)], good[1], good[2]], [[(1,)] * 3, good[1], good[2]], [[], good[1], good[2]],
            [good[0], good[1], good[2][:3]], [good[0], good[1], good[2] + [(0, 0)]],
            [[(1,), (2,)], good[1], good[2]], [[(1,), (-1,)], good[1], good[2]],
            [[(1,), ()], good[1], good[2]], [[(1,), (0, 0)], good[1], good[2]],
            [good[0], good[1], [(0, 0), (0, 0), (0, 0), (0, 2)]],
            [good[0], good[1], [(0, 0), (0, 0), (0, 0), (-1, 0)]],
            [good[0], good[1], [(0, 0), (0,), (0, 0), (0, 0)]],
            [good[0], good[1], [(0, 0), (0, 0, 0), (0, 0), (0, 0)]],
            [good[0], good[1], [(0, 0), (), (0, 0), (0, 0)]],
        ):
            self.refused(2, tables)
        self.refused(2, [good[0], good[1], good[2]], CHAIN)

    def test_finals(self):
        for finals in ([4], [0, 4], [-1], [-1, 0], [1, 0], [1, 1], [0, 3, 2]):
            self.refused(3, finals)
        for finals in ([], [0], [3], [0, 1, 2, 3]):
            Team(SHARED, *self.parts[:3], finals)

    def test_ranks(self):
        for sizes in ([1], [5], [2, 3], [3, 2], (2, 2, 2), [5, 1, 4], [2, 5, 3, 4], []):
            for rank, combination in enumerate(combinations(sizes)):
                self.assertEqual(rank_of(sizes, combination), rank)
                self.assertEqual(rank_of(sizes, list(combination)), rank)
                self.assertEqual(combination_of(sizes, rank), combination)
                self.assertIs(type(combination_of(sizes, rank)), tuple)

    def test_states_and_words(self):
        rng = random.Random(44)
        for alphabet in ALPHABETS:
            for _ in range(4):
                parts = drawn_parts(rng, alphabet)
                team = Team(alphabet, *parts)
                words = short_words(alphabet, 60) + [random_word(rng, alphabet, 15) for _ in range(20)]
                for word in words:
                    expected = plain_state(alphabet, *parts[:3], word)
                    self.assertEqual(team_state(team, word), expected)
                    self.assertIs(type(team_state(team, list(word))), tuple)
                    inside = combinations(parts[0]).index(expected) in parts[3]
                    self.assertIs(team_accepts(team, list(word)), inside)

    def test_automata(self):
        rng = random.Random(45)
        for alphabet in ALPHABETS:
            letters = len(alphabet.letters)
            for _ in range(4):
                parts = drawn_parts(rng, alphabet, 2)
                team = Team(alphabet, *parts)
                automaton = team_automaton(team)
                self.assertEqual(automaton.letters, letters)
                self.assertTrue(is_numbered_and_least(automaton))
                self.assertIsNone(closed_fault(alphabet, automaton))
                for word in words_up_to(letters, 4 if letters > 3 else 6):
                    self.assertIs(accepts(automaton, word), team_accepts(team, word))
                for _ in range(20):
                    word = random_word(rng, alphabet, 25)
                    self.assertIs(accepts(automaton, word), team_accepts(team, word))

    def test_no_final_combination(self):
        automaton = team_automaton(Team(SHARED, *self.parts[:3], []))
        self.assertEqual((automaton.finals, automaton.rows), ((), ((0, 0, 0),)))
        automaton = team_automaton(Team(SHARED, *self.parts[:3], [0, 1, 2, 3]))
        self.assertEqual((automaton.finals, automaton.rows), ((0,), ((0, 0, 0),)))

    def test_the_largest_teams(self):
        rng = random.Random(46)
        for alphabet in (MIXED, RING):
            sizes = [5] * 4
            tables = []
            for places in alphabet.letters:
                own = combinations([5] * len(places))
                tables.append(rng.sample(own, len(own)))
            team = Team(alphabet, sizes, [0, 1, 2, 3], tables, sorted(rng.sample(range(625), 200)))
            automaton = team_automaton(team)
            self.assertLessEqual(len(automaton.rows), 625)
            for _ in range(50):
                word = random_word(rng, alphabet, 30)
                self.assertIs(accepts(automaton, word), team_accepts(team, word))
