import random
import unittest

from placewords.alphabets import Alphabet
from placewords.automata import Automaton, accepts
from placewords.closure import closed_fault, least_words
from placewords.forms import is_least

from tests.samples import (
    ALPHABETS, FREE, RING, SHARED, all_orders_automaton, automaton_of_words, closed_automaton, is_numbered_and_least,
    one_swap, random_automaton, random_word, words_up_to,
)


class ClosedFaultTest(unittest.TestCase):
    def check_fault(self, alphabet, automaton, fault):
        self.assertIs(type(fault), tuple)
        first, second = fault
        self.assertIs(type(first), tuple)
        self.assertIs(type(second), tuple)
        self.assertIn(second, list(one_swap(alphabet, first)))
        self.assertTrue(accepts(automaton, first))
        self.assertFalse(accepts(automaton, second))

    def shortest(self, alphabet, automaton, length):
        for word in words_up_to(automaton.letters, length):
            if accepts(automaton, word):
                if not all(accepts(automaton, other) for other in one_swap(alphabet, word)):
                    return len(word)
        return None

    def test_the_example(self):
        automaton = Automaton(2, 0, [2], [[1, 3], [3, 2], [3, 3], [3, 3]])
        self.assertEqual(closed_fault(Alphabet(2, [(0,), (1,)]), automaton), ((0, 1), (1, 0)))

    def test_drawn_automata(self):
        rng = random.Random(13)
        for alphabet in ALPHABETS:
            many = len(alphabet.letters)
            length = {1: 8, 2: 8, 3: 7, 4: 6, 6: 4}[many]
            for _ in range(25):
                automaton = random_automaton(rng, many, rng.randint(1, 5))
                fault = closed_fault(alphabet, automaton)
                shortest = self.shortest(alphabet, automaton, length)
                if fault is None:
                    self.assertIsNone(shortest)
                else:
                    self.check_fault(alphabet, automaton, fault)
                    self.assertEqual(shortest, len(fault[0]) if len(fault[0]) <= length else None)

    def test_closed_sets(self):
        rng = random.Random(14)
        for alphabet in ALPHABETS:
            for _ in range(5):
                automaton = closed_automaton(rng, alphabet, [rng.randint(1, 3) for _ in range(alphabet.places)])
                self.assertIsNone(closed_fault(alphabet, automaton))
            words = [random_word(rng, alphabet, rng.randint(0, 5)) for _ in range(4)]
            self.assertIsNone(closed_fault(alphabet, all_orders_automaton(alphabet, words)))

    def test_a_word_is_missing(self):
        word = (0, 1, 2, 0, 1)
        for missing in ((1, 0, 2, 0, 1), (0, 1, 2, 1, 0)):
            words = {(0, 1, 2, 0, 1), (1, 0, 2, 0, 1), (0, 1, 2, 1, 0), (1, 0, 2, 1, 0)} - {missing}
            automaton = automaton_of_words(3, words)
            fault = closed_fault(SHARED, automaton)
            self.check_fault(SHARED, automaton, fault)
            self.assertEqual((len(fault[0]), fault[1]), (len(word), missing))

    def test_empty_sets_and_states_that_are_not_reached(self):
        self.assertIsNone(closed_fault(FREE, Automaton(2, 0, [], [[0, 0]])))
        self.assertIsNone(closed_fault(FREE, Automaton(2, 0, [0], [[0, 0]])))
        self.assertIsNone(closed_fault(FREE, Automaton(2, 0, [0], [[0, 0], [2, 0], [1, 0]])))

    def test_a_fault_far_behind_the_swap(self):
        # Words with a letter 0 that are 0 1 .. or 1 0 .. differ in what is accepted much later.
        rows = [[1, 2], [9, 3], [4, 9], [5, 9], [6, 9], [7, 9], [8, 9], [9, 9], [9, 9], [9, 9]]
        automaton = Automaton(2, 0, [7], rows)
        self.assertEqual(closed_fault(FREE, automaton)[0][:2], (0, 1))
        self.assertEqual(len(closed_fault(FREE, automaton)[0]), 4)


class LeastWordsTest(unittest.TestCase):
    def test_against_is_least(self):
        for alphabet in ALPHABETS:
            automaton = least_words(alphabet)
            self.assertTrue(is_numbered_and_least(automaton))
            self.assertEqual(automaton.letters, len(alphabet.letters))
            for word in words_up_to(automaton.letters, 4 if automaton.letters > 4 else 6):
                self.assertIs(accepts(automaton, word), is_least(alphabet, word))

    def test_long_words(self):
        automaton = least_words(RING)
        rng = random.Random(15)
        for _ in range(100):
            word = random_word(rng, RING, rng.randint(5, 12))
            self.assertIs(accepts(automaton, word), is_least(RING, word))
