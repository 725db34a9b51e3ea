import itertools
import random
import unittest

from placewords.alphabets import Alphabet
from placewords.automata import accepts
from placewords.choices import ChoiceTeam, choice_accepts, choice_automaton
from placewords.closure import closed_fault
from placewords.errors import InvalidTeam
from placewords.machines import Machines, run_apart
from placewords.mixtures import difference
from placewords.teams import Team, team_automaton

from tests.samples import (
    ALPHABETS, CHAIN, FREE, RING, SHARED, is_numbered_and_least, orders, random_word, short_words,
)
from tests.test_teams import combinations, drawn_parts


def drawn_choices(rng, alphabet, most_states=3, most_choices=2):
    sizes = [rng.randint(1, most_states) for _ in range(alphabet.places)]
    starts = rng.choices(combinations(sizes), k=rng.randint(1, 3))
    tables = []
    for places in alphabet.letters:
        own = combinations([sizes[place] for place in places])
        tables.append([rng.choices(own, k=rng.randint(0, most_choices)) for _ in own])
    finals = [rank for rank in range(len(combinations(sizes))) if rng.random() < 0.4]
    return sizes, starts, tables, finals


def plain_accepts(alphabet, sizes, starts, tables, finals, word):
    """Try all choices for the letters one after the other."""
    ends = {combination for rank, combination in enumerate(combinations(sizes)) if rank in finals}

    def leads_to_end(states, at):
        if at == len(word):
            return states in ends
        places = alphabet.letters[word[at]]
        table = dict(zip(combinations([sizes[place] for place in places]), tables[word[at]]))
        for choice in table[tuple(states[place] for place in places)]:
            behind = list(states)
            for place, state in zip(places, choice):
                behind[place] = state
            if leads_to_end(tuple(behind), at + 1):
                return True
        return False

    return any(leads_to_end(tuple(start), 0) for start in starts)


class ChoiceTeamTest(unittest.TestCase):
    parts = (
        [2, 2], [(0, 0), (1, 1)],
        [[[(1,), (0,)], []], [[(0,)], [(0,)]], [[(0, 0)], [(0, 1), (1, 0)], [], [(1, 1)]]], [1, 3],
    )

    def refused(self, at, value, alphabet=SHARED):
        parts = list(self.parts)
        parts[at] = value
        with self.assertRaises(InvalidTeam):
            ChoiceTeam(alphabet, *parts)

    def test_attributes(self):
        sizes, starts, tables, finals = [2, 2], [[0, 0], (1, 1)], [[[[1], (0,)], []], [[(0,)], [[0]]], [[(0, 0)]] * 4], [1]
        team = ChoiceTeam(SHARED, sizes, starts, tables, finals)
        sizes.append(3)
        starts[0][0] = 1
        starts.pop()
        tables[0][0][0][0] = 0
        tables[0][1].append((0,))
        tables[1].pop()
        tables.pop()
        finals.append(2)
        self.assertIs(team.alphabet, SHARED)
        self.assertEqual((team.sizes, team.starts, team.finals), ((2, 2), ((0, 0), (1, 1)), (1,)))
        self.assertEqual(team.tables, ((((1,), (0,)), ()), (((0,),), ((0,),)), (((0, 0),),) * 4))

    def test_arguments_are_not_modified(self):
        parts = [list(part) for part in self.parts]
        team = ChoiceTeam(SHARED, *parts)
        choice_accepts(team, [0, 2])
        choice_automaton(team)
        self.assertEqual(tuple(parts), self.parts)

    def test_sizes(self):
        ChoiceTeam(SHARED, *self.parts)
        for sizes in ([0, 2], [2, 0], [6, 2], [2, 6], [-1, 2], [], [2], [2, 2, 2], [1, 2], [2, 3]):
            self.refused(0, sizes)
        with self.assertRaises(InvalidTeam):
            ChoiceTeam(FREE, [6, 1], [[0, 0]], [[[]] * 6, [[]]], [])
        with self.assertRaises(InvalidTeam):
            ChoiceTeam(FREE, [0, 1], [[0, 0]], [[], [[]]], [])
        ChoiceTeam(FREE, [5, 1], [[4, 0]], [[[(4,)]] * 5, [[]]], [4])

    def test_starts(self):
        self.refused(1, [])
        for start in ((), (0,), (0, 0, 0), (2, 0), (0, 2), (-1, 0), (0, -1)):
            self.refused(1, [start])
            self.refused(1, [(0, 0), start])
            self.refused(1, [start, (0, 0)])

    def test_tables(self):
        good = self.parts[2]
        for tables in (
            [], good[:2], good + [[[], []]],
            [[[]], good[1], good[2]], [[[]] * 3, good[1], good[2]], [[], good[1], good[2]],
            [good[0], good[1], good[2][:3]], [good[0], good[1], good[2] + [[]]],
        ):
            self.refused(2, tables)
        self.refused(2, good, CHAIN)
        for choice in ((), (2,), (-1,), (0, 0)):
            self.refused(2, [[[choice], []], good[1], good[2]])
            self.refused(2, [[[], [(0,), choice]], good[1], good[2]])
            self.refused(2, [[[], [choice, (0,)]], good[1], good[2]])
        for choice in ((), (0,), (0, 2), (2, 0), (-1, 0), (0, -1), (0, 0, 0)):
            self.refused(2, [good[0], good[1], [[], [], [], [(0, 0), choice]]])

    def test_finals(self):
        for finals in ([4], [0, 4], [-1], [-1, 0], [1, 0], [1, 1], [0, 3, 2]):
            self.refused(3, finals)
        for finals in ([], [0], [3], [0, 1, 2, 3]):
            ChoiceTeam(SHARED, *self.parts[:3], finals)

    def test_all_choices(self):
        rng = random.Random(112)
        for alphabet in ALPHABETS:
            words = short_words(alphabet, 150)
            for _ in range(6):
                parts = drawn_choices(rng, alphabet, 2 if alphabet.places == 4 else 3)
                team = ChoiceTeam(alphabet, *parts)
                automaton = choice_automaton(team)
                self.assertEqual(automaton.letters, len(alphabet.letters))
                self.assertIsNone(closed_fault(alphabet, automaton))
                if len(automaton.rows) < 60:
                    self.assertTrue(is_numbered_and_least(automaton))
                for word in words + [random_word(rng, alphabet, 7) for _ in range(20)]:
                    expected = plain_accepts(alphabet, *parts, word)
                    self.assertIs(choice_accepts(team, list(word)), expected)
                    self.assertIs(accepts(automaton, word), expected)
                for _ in range(20):
                    word = random_word(rng, alphabet, 30)
                    self.assertIs(accepts(automaton, word), choice_accepts(team, word))

    def test_all_orders_are_alike(self):
        rng = random.Random(113)
        for alphabet in ALPHABETS:
            team = ChoiceTeam(alphabet, *drawn_choices(rng, alphabet))
            for _ in range(4):
                word = random_word(rng, alphabet, 6)
                self.assertEqual(len({choice_accepts(team, order) for order in orders(alphabet, word)}), 1)

    def test_several_starts(self):
        # The letter leads on from one of the starts only, and each start is an end for one word.
        tables = [[[], [(1,)]], [[], []]]
        team = ChoiceTeam(FREE, [2, 2], [(0, 0), (1, 0)], tables, [0])
        self.assertEqual([choice_accepts(team, word) for word in ((), (0,), (1,))], [True, False, False])
        team = ChoiceTeam(FREE, [2, 2], [(0, 0), (1, 0)], tables, [2])
        self.assertEqual([choice_accepts(team, word) for word in ((), (0,), (0, 0), (1,))], [True] * 3 + [False])
        team = ChoiceTeam(FREE, [2, 2], [(0, 0), (0, 1)], tables, [2])
        self.assertEqual([choice_accepts(team, word) for word in ((), (0,), (1,))], [False] * 3)
        self.assertEqual(choice_automaton(team).rows, ((0, 0),))
        twice = ChoiceTeam(FREE, [2, 2], [(1, 0), (1, 0)], tables, [2])
        self.assertIsNone(difference(choice_automaton(twice), choice_automaton(
            ChoiceTeam(FREE, [2, 2], [(1, 0)], tables, [2]))))

    def test_empty_lists_of_combinations(self):
        team = ChoiceTeam(SHARED, [1, 1], [(0, 0)], [[[]], [[(0,)]], [[]]], [0])
        for word in short_words(SHARED):
            self.assertIs(choice_accepts(team, word), all(letter == 1 for letter in word))
        nothing = ChoiceTeam(SHARED, [1, 1], [(0, 0)], [[[]], [[]], [[]]], [0])
        self.assertEqual(choice_automaton(nothing).rows, ((1, 1, 1), (1, 1, 1)))
        self.assertEqual(choice_automaton(nothing).finals, (0,))

    def test_choices_that_hang_together(self):
        # The places choose together: both change, or none does.
        alphabet = Alphabet(2, [(0, 1), (0,), (1,)])
        both = [[(0, 0), (1, 1)], [], [], []]
        stay = [[], [(1,)]]
        team = ChoiceTeam(alphabet, [2, 2], [(0, 0)], [both, stay, [[(0,)], []]], [0, 3])
        self.assertTrue(choice_accepts(team, (0, 1)))
        self.assertTrue(choice_accepts(team, (0, 2)))
        self.assertFalse(choice_accepts(team, (0, 1, 2)))

    def test_teams_without_choices(self):
        rng = random.Random(114)
        for alphabet in ALPHABETS:
            sizes, starts, tables, finals = drawn_parts(rng, alphabet)
            team = Team(alphabet, sizes, starts, tables, finals)
            choices = [[[combination] for combination in table] for table in tables]
            other = ChoiceTeam(alphabet, sizes, [starts], choices, finals)
            one, two = team_automaton(team), choice_automaton(other)
            self.assertEqual((one.finals, one.rows), (two.finals, two.rows))

    def test_machines_do_what_the_team_does(self):
        rng = random.Random(115)
        for alphabet in (SHARED, CHAIN, RING, FREE):
            found = 0
            while found < 4:
                team = ChoiceTeam(alphabet, *drawn_choices(rng, alphabet, 2))
                automaton = choice_automaton(team)
                if 2 < len(automaton.rows) <= 40:
                    found += 1
                    machines = Machines(alphabet, automaton)
                    for word in [random_word(rng, alphabet, rng.randint(0, 12)) for _ in range(40)]:
                        told = machines.accepts(run_apart(machines, alphabet, word))
                        self.assertIs(told, choice_accepts(team, word))

    def test_few_states_on_the_way_back_and_many_forth(self):
        # Whether the letter 0 came n letters before the end: forth, sets of states are very many.
        alphabet = Alphabet(2, [(0, 1), (0, 1)])
        combos = combinations([4, 4])
        tables = []
        for letter in (0, 1):
            table = []
            for rank in range(16):
                row = [combos[0]] if rank == 0 else [combos[rank + 1]] if rank < 10 else []
                table.append(row + ([combos[1]] if rank == 0 and letter == 0 else []))
            tables.append(table)
        team = ChoiceTeam(alphabet, [4, 4], [(0, 0)], tables, [10])
        automaton = choice_automaton(team)
        self.assertEqual(len(automaton.rows), 2 ** 10)
        for word in itertools.islice(itertools.product((0, 1), repeat=12), 0, 4096, 7):
            self.assertIs(accepts(automaton, word), word[-10] == 0)
        # And the other way round: the sets of states on the way back are very many.
        turned = [[[] for _ in range(16)] for _ in (0, 1)]
        for letter in (0, 1):
            for rank in range(16):
                for target in tables[letter][rank]:
                    turned[letter][combos.index(target)].append(combos[rank])
        team = ChoiceTeam(alphabet, [4, 4], [combos[10]], turned, [0])
        automaton = choice_automaton(team)
        self.assertEqual(len(automaton.rows), 12)
        for word in itertools.islice(itertools.product((0, 1), repeat=12), 0, 4096, 7):
            self.assertIs(accepts(automaton, word), word[9] == 0)
