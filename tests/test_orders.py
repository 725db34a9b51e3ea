import math
import random
import unittest

from placewords.alphabets import Alphabet
from placewords.automata import Automaton, accepts
from placewords.orders import accepted_order, accepted_orders
from placewords.prefixes import order_count

from tests.samples import (
    ALPHABETS, APART, FREE, RING, SHARED, automaton_of_words, closed_automaton, orders, random_automaton, random_word,
    short_words,
)

ENDS_WITH_ZERO = Automaton(2, 0, [1], [[1, 0], [1, 0]])


def all_words(letters):
    return Automaton(letters, 0, [0], [[0] * letters])


class OrdersTest(unittest.TestCase):
    def check(self, alphabet, automaton, word):
        good = [order for order in orders(alphabet, word) if accepts(automaton, order)]
        found = accepted_order(alphabet, automaton, list(word))
        self.assertEqual(found, min(good, default=None), (alphabet.letters, word))
        self.assertIs(type(found), tuple if good else type(None))
        many = accepted_orders(alphabet, automaton, list(word))
        self.assertEqual(many, len(good), (alphabet.letters, word))
        self.assertIs(type(many), int)

    def test_the_example(self):
        alphabet = Alphabet(2, [(0,), (1,)])
        found = (accepted_order(alphabet, ENDS_WITH_ZERO, (0, 0, 1)), accepted_orders(alphabet, ENDS_WITH_ZERO, (0, 0, 1)))
        self.assertEqual(found, ((0, 1, 0), 2))

    def test_drawn_automata(self):
        rng = random.Random(140)
        for alphabet in ALPHABETS:
            letters = len(alphabet.letters)
            for _ in range(6):
                automaton = random_automaton(rng, letters, rng.randint(1, 6))
                for word in rng.sample(short_words(alphabet, 200), 6) + [random_word(rng, alphabet, 7)]:
                    self.check(alphabet, automaton, word)

    def test_closed_sets(self):
        rng = random.Random(141)
        for alphabet in ALPHABETS:
            automaton = closed_automaton(rng, alphabet, [2] * alphabet.places)
            for _ in range(6):
                word = random_word(rng, alphabet, 7)
                self.check(alphabet, automaton, word)
                expected = len(orders(alphabet, word)) if accepts(automaton, word) else 0
                self.assertEqual(accepted_orders(alphabet, automaton, word), expected)

    def test_some_orders_of_one_word(self):
        rng = random.Random(142)
        for alphabet in (FREE, SHARED, RING, APART):
            for _ in range(5):
                word = random_word(rng, alphabet, 6)
                same = sorted(orders(alphabet, word))
                chosen = rng.sample(same, rng.randint(0, len(same)))
                automaton = automaton_of_words(len(alphabet.letters), chosen + [(0,) * 7])
                self.assertEqual(accepted_order(alphabet, automaton, word), min(chosen, default=None))
                self.assertEqual(accepted_orders(alphabet, automaton, word), len(chosen))

    def test_none_and_0(self):
        for alphabet in ALPHABETS:
            letters = len(alphabet.letters)
            nothing = Automaton(letters, 0, [], [[0] * letters])
            for word in short_words(alphabet, 30):
                self.assertIsNone(accepted_order(alphabet, nothing, word))
                self.assertEqual(accepted_orders(alphabet, nothing, word), 0)
        self.assertIsNone(accepted_order(SHARED, automaton_of_words(3, [(0, 2)]), (2, 0)))

    def test_the_empty_word(self):
        for alphabet in ALPHABETS:
            letters = len(alphabet.letters)
            self.assertEqual(accepted_order(alphabet, all_words(letters), ()), ())
            self.assertEqual(accepted_orders(alphabet, all_words(letters), ()), 1)
            longer = Automaton(letters, 0, [1], [[1] * letters, [1] * letters])
            self.assertIsNone(accepted_order(alphabet, longer, ()))
            self.assertEqual(accepted_orders(alphabet, longer, ()), 0)

    def test_sixteen_independent_letters(self):
        word = (3, 2, 1, 0) * 4
        many = math.factorial(16) // math.factorial(4) ** 4
        self.assertEqual(accepted_order(APART, all_words(4), word), tuple(sorted(word)))
        self.assertEqual(accepted_orders(APART, all_words(4), word), many)
        # Never the same letter twice side by side; and the last one is 0.
        rows = [[letter if letter != state else 4 for letter in range(4)] for state in range(4)]
        different = Automaton(4, 5, [0], rows + [[4] * 4, [0, 1, 2, 3]])
        order = accepted_order(APART, different, word)
        self.assertEqual(order[:8], (0, 1, 0, 1, 0, 1, 2, 1))
        self.assertTrue(accepts(different, order))
        self.assertEqual(sorted(order), sorted(word))
        total = sum(
            accepted_orders(APART, Automaton(4, 5, [last], different.rows), word) for last in range(4)
        )
        self.assertEqual(total % 4, 0)
        self.assertEqual(total, 4 * accepted_orders(APART, different, word))
        word = (0, 1) * 8
        self.assertEqual(accepted_orders(FREE, ENDS_WITH_ZERO, word), math.comb(15, 7))
        self.assertEqual(accepted_order(FREE, ENDS_WITH_ZERO, word), (0,) * 7 + (1,) * 8 + (0,))

    def test_long_words(self):
        rng = random.Random(143)
        for alphabet in ALPHABETS:
            letters = len(alphabet.letters)
            word = random_word(rng, alphabet, 16)
            self.assertEqual(accepted_orders(alphabet, all_words(letters), word), order_count(alphabet, word))
            automaton = random_automaton(rng, letters, 30)
            inside = accepted_orders(alphabet, automaton, word)
            outside = Automaton(letters, automaton.start,
                                [state for state in range(30) if state not in automaton.finals], automaton.rows)
            self.assertEqual(inside + accepted_orders(alphabet, outside, word), order_count(alphabet, word))
