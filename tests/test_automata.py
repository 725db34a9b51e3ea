import random
import unittest

from placewords.automata import Automaton, accepts, least, state_after
from placewords.errors import InvalidAutomaton

from tests.samples import accepted, is_numbered_and_least, random_automaton


def parts(automaton):
    return (automaton.letters, automaton.start, automaton.finals, automaton.rows)


class AutomatonTest(unittest.TestCase):
    def refused(self, *arguments):
        with self.assertRaises(InvalidAutomaton):
            Automaton(*arguments)

    def test_what_is_refused(self):
        self.refused(0, 0, [], [[]])
        self.refused(-1, 0, [], [[]])
        self.refused(1, 0, [], [])
        for state in (-1, 2, 7):
            self.refused(1, state, [], [[0], [1]])
            self.refused(1, 0, [state], [[0], [1]])
            self.refused(1, 0, [], [[0], [state]])
        self.refused(1, 0, [1, 0], [[0], [1]])
        self.refused(1, 0, [1, 1], [[0], [1]])
        self.refused(1, 0, [-1, 0], [[0], [1]])
        self.refused(2, 0, [], [[0, 0], [0]])
        self.refused(2, 0, [], [[0, 0, 0], [0, 0]])
        self.refused(2, 0, [], [[]])

    def test_attributes_are_tuples_that_stay(self):
        finals, rows = [1], [[1, 0], [1, 1]]
        automaton = Automaton(2, 0, finals, rows)
        finals.append(2)
        rows[0][0] = 0
        rows.append([0, 0])
        self.assertEqual(parts(automaton), (2, 0, (1,), ((1, 0), (1, 1))))
        self.assertIs(type(automaton.finals), tuple)
        self.assertIs(type(automaton.rows), tuple)
        self.assertTrue(all(type(row) is tuple for row in automaton.rows))

    def test_many_letters(self):
        self.assertEqual(Automaton(9, 0, (), [(0,) * 9]).letters, 9)


class WordsOfAutomataTest(unittest.TestCase):
    def test_state_after_and_accepts(self):
        even = Automaton(2, 0, [0], [[1, 0], [0, 1]])
        self.assertEqual(state_after(even, ()), 0)
        self.assertEqual(state_after(even, [0, 1, 1]), 1)
        self.assertIs(accepts(even, ()), True)
        self.assertIs(accepts(even, (1, 0, 1)), False)
        self.assertIs(accepts(even, [0, 1, 0]), True)

    def test_they_begin_at_the_start(self):
        automaton = Automaton(1, 1, [0], [[0], [0]])
        self.assertEqual(state_after(automaton, ()), 1)
        self.assertIs(accepts(automaton, ()), False)
        self.assertIs(accepts(automaton, (0,)), True)


class LeastTest(unittest.TestCase):
    def test_drawn_automata(self):
        rng = random.Random(11)
        for _ in range(300):
            automaton = random_automaton(rng, rng.randint(1, 3), rng.randint(1, 7))
            small = least(automaton)
            self.assertTrue(is_numbered_and_least(small))
            self.assertEqual(small.letters, automaton.letters)
            self.assertEqual(accepted(small, 5), accepted(automaton, 5))
            self.assertEqual(parts(least(small)), parts(small))

    def test_states_that_are_not_reached(self):
        self.assertEqual(parts(least(Automaton(1, 2, [0, 1], [[1], [0], [2]]))), (1, 0, (), ((0,),)))
        self.assertEqual(parts(least(Automaton(1, 1, [0, 1], [[2], [1], [0]]))), (1, 0, (0,), ((0,),)))

    def test_no_final_state_and_all_states_final(self):
        rows = [[1, 2], [2, 0], [0, 0]]
        self.assertEqual(parts(least(Automaton(2, 1, [], rows))), (2, 0, (), ((0, 0),)))
        self.assertEqual(parts(least(Automaton(2, 1, [0, 1, 2], rows))), (2, 0, (0,), ((0, 0),)))

    def test_the_numbering(self):
        # From the start state 3, letter 0 leads to 1 and letter 1 leads to 2; 0 stands behind 1.
        automaton = Automaton(2, 3, [0, 2], [[0, 3], [0, 1], [2, 1], [1, 2]])
        self.assertEqual(parts(least(automaton)), (2, 0, (2, 3), ((1, 2), (3, 1), (2, 1), (3, 0))))

    def test_long_chains(self):
        size = 300
        rows = [[min(state + 1, size)] for state in range(size + 1)]
        self.assertEqual(len(least(Automaton(1, 0, [size], rows)).rows), size + 1)
        self.assertEqual(len(least(Automaton(1, 0, [size - 1, size], rows)).rows), size)
