import random
import unittest

from placewords.automata import accepts, least
from placewords.closure import closed_fault
from placewords.finite import finite_automaton
from placewords.mixtures import difference

from tests.samples import (
    ALPHABETS, APART, CHAIN, MIXED, RING, SHARED, accepted, all_orders_automaton, is_numbered_and_least, orders,
    random_word,
)


class FiniteTest(unittest.TestCase):
    def check(self, alphabet, words):
        found = finite_automaton(alphabet, words)
        self.assertEqual(found.letters, len(alphabet.letters))
        self.assertTrue(is_numbered_and_least(found))
        self.assertIsNone(closed_fault(alphabet, found))
        expected = least(all_orders_automaton(alphabet, [tuple(word) for word in words]))
        self.assertEqual((found.start, found.finals, found.rows), (expected.start, expected.finals, expected.rows))
        return found

    def test_drawn_lists(self):
        rng = random.Random(95)
        for alphabet in ALPHABETS:
            for many in (1, 2, 3, 6):
                words = [random_word(rng, alphabet, rng.randint(0, 5)) for _ in range(many)]
                found = self.check(alphabet, words)
                if found.letters < 4:
                    expected = {order for word in words for order in orders(alphabet, word)}
                    self.assertEqual(accepted(found, 6), expected)

    def test_six_words_of_eight_letters(self):
        rng = random.Random(96)
        for alphabet in (SHARED, CHAIN, RING, MIXED):
            words = [random_word(rng, alphabet, 8) for _ in range(6)]
            found = finite_automaton(alphabet, words)
            same = {order for word in words for order in orders(alphabet, word)}
            for order in same:
                self.assertTrue(accepts(found, order))
                self.assertEqual(accepts(found, order[:-1]), False)
            for _ in range(200):
                word = random_word(rng, alphabet, 8)
                self.assertIs(accepts(found, word), word in same)
            self.assertIsNone(closed_fault(alphabet, found))
            self.assertIsNone(difference(found, least(found)))

    def test_many_orders(self):
        found = finite_automaton(APART, [(0, 1, 2, 3) * 2])
        self.assertEqual(len(found.rows), 3 ** 4 + 1)
        self.assertTrue(accepts(found, (3, 3, 2, 2, 1, 1, 0, 0)))
        self.assertFalse(accepts(found, (3, 3, 2, 2, 1, 1, 0)))

    def test_the_empty_list(self):
        for alphabet in ALPHABETS:
            found = finite_automaton(alphabet, [])
            self.assertEqual((found.start, found.finals), (0, ()))
            self.assertEqual(found.rows, ((0,) * len(alphabet.letters),))

    def test_the_empty_word(self):
        for alphabet in ALPHABETS:
            found = finite_automaton(alphabet, [()])
            self.assertEqual((found.start, found.finals), (0, (0,)))
            self.assertEqual(found.rows, ((1,) * len(alphabet.letters),) * 2)
            self.check(alphabet, [(), (0,), ()])

    def test_equal_and_equivalent_words(self):
        one = finite_automaton(SHARED, [(0, 1, 2)])
        for words in ([(0, 1, 2), (0, 1, 2)], [(1, 0, 2)], [(0, 1, 2), (1, 0, 2)], [[1, 0, 2], (0, 1, 2)]):
            found = self.check(SHARED, words)
            self.assertEqual((found.finals, found.rows), (one.finals, one.rows))

    def test_words_of_different_lengths(self):
        words = [(), (0,), (0, 1), (0, 1, 2), (1, 0, 2, 0, 1)]
        found = self.check(SHARED, words)
        self.assertEqual(accepted(found, 6), {order for word in words for order in orders(SHARED, word)})

    def test_arguments_stay_as_they_are(self):
        words = [[0, 1], [2]]
        finite_automaton(SHARED, words)
        self.assertEqual(words, [[0, 1], [2]])
