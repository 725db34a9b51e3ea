import random
import unittest

from placewords.alphabets import Alphabet
from placewords.automata import Automaton, accepts, state_after
from placewords.errors import InvalidTeam
from placewords.productteams import product_team
from placewords.sides import place_product
from placewords.teams import Team, rank_of, team_accepts, team_automaton, team_state

from tests.samples import ALPHABETS, FREE, MIXED, RING, SHARED, plain_queues, random_automaton, random_word, short_words


class ProductTeamTest(unittest.TestCase):
    def check(self, rng, alphabet, automata, words):
        team = product_team(alphabet, automata)
        self.assertIs(type(team), Team)
        self.assertIs(team.alphabet, alphabet)
        self.assertEqual(team.sizes, tuple(len(automaton.rows) for automaton in automata))
        self.assertEqual(team.starts, tuple(automaton.start for automaton in automata))
        for word in words:
            rows = plain_queues(alphabet, word)
            states = tuple(state_after(automaton, row) for automaton, row in zip(automata, rows))
            self.assertEqual(team_state(team, word), states)
            expected = all(accepts(automaton, row) for automaton, row in zip(automata, rows))
            self.assertIs(team_accepts(team, word), expected)
        return team

    def test_drawn_automata(self):
        rng = random.Random(150)
        for alphabet in ALPHABETS + [Alphabet(3, [(0, 1, 2), (0,), (1, 2), (2,)])]:
            words = short_words(alphabet, 150) + [random_word(rng, alphabet, 20) for _ in range(20)]
            for _ in range(3):
                automata = [random_automaton(rng, len(alphabet.letters), rng.randint(1, 3))
                            for _ in range(alphabet.places)]
                team = self.check(rng, alphabet, automata, words)
                one, other = team_automaton(team), place_product(alphabet, automata)
                self.assertEqual((one.finals, one.rows), (other.finals, other.rows))

    def test_one_state_and_five_states(self):
        rng = random.Random(151)
        for alphabet in (SHARED, RING, MIXED):
            for many in (1, 5):
                automata = [random_automaton(rng, len(alphabet.letters), many) for _ in range(alphabet.places)]
                self.check(rng, alphabet, automata, [random_word(rng, alphabet, 12) for _ in range(40)])
            automata = [random_automaton(rng, len(alphabet.letters), rng.choice([1, 5]))
                        for _ in range(alphabet.places)]
            team = self.check(rng, alphabet, automata, [random_word(rng, alphabet, 12) for _ in range(40)])
            one, other = team_automaton(team), place_product(alphabet, automata)
            self.assertEqual((one.finals, one.rows), (other.finals, other.rows))

    def test_six_states(self):
        rng = random.Random(152)
        small, large = random_automaton(rng, 3, 5), random_automaton(rng, 3, 6)
        for automata in ([small, large], [large, small], [large, large], [random_automaton(rng, 3, 500), small]):
            with self.assertRaises(InvalidTeam):
                product_team(SHARED, automata)
        product_team(SHARED, [small, small])
        # States that are not needed count as well.
        with self.assertRaises(InvalidTeam):
            product_team(SHARED, [Automaton(3, 0, [0], [[0, 0, 0]] * 6), small])

    def test_tables_and_finals(self):
        one = Automaton(3, 1, [0], [[1, 1, 0], [0, 1, 1]])
        other = Automaton(3, 0, [1, 2], [[0, 1, 2], [1, 2, 0], [2, 0, 1]])
        team = product_team(SHARED, [one, other])
        self.assertEqual((team.sizes, team.starts), ((2, 3), (1, 0)))
        self.assertEqual(team.tables[:2], (((1,), (0,)), ((1,), (2,), (0,))))
        self.assertEqual(team.tables[2], ((0, 2), (0, 0), (0, 1), (1, 2), (1, 0), (1, 1)))
        self.assertEqual(team.finals, (rank_of([2, 3], (0, 1)), rank_of([2, 3], (0, 2))))

    def test_arguments_stay_as_they_are(self):
        automata = [Automaton(2, 0, [0], [[0, 0]]), Automaton(2, 0, [], [[0, 0]])]
        kept = list(automata)
        team = product_team(FREE, automata)
        self.assertEqual(automata, kept)
        automata.clear()
        self.assertEqual((team.sizes, team.finals), ((1, 1), ()))
        self.assertEqual(product_team(FREE, tuple(kept)).tables, team.tables)
