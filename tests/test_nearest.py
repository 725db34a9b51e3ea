import random
import unittest

from placewords.alphabets import Alphabet
from placewords.automata import Automaton, accepts
from placewords.nearest import nearest_order
from placewords.words import swaps

from tests.samples import (
    ALPHABETS, APART, FREE, RING, SHARED, automaton_of_words, closed_automaton, orders, random_automaton, random_word,
    short_words,
)


class NearestTest(unittest.TestCase):
    def check(self, alphabet, automaton, word):
        found = nearest_order(alphabet, automaton, list(word))
        good = {order: many for order, many in orders(alphabet, word).items() if accepts(automaton, order)}
        if not good:
            self.assertIsNone(found)
            return
        self.assertIs(type(found), tuple)
        order, distance = found
        self.assertIs(type(order), tuple)
        self.assertIs(type(distance), int)
        self.assertIn(order, good)
        self.assertEqual(distance, good[order], (alphabet.letters, word, order))
        self.assertEqual(distance, min(good.values()), (alphabet.letters, word, order))
        self.assertEqual(found, nearest_order(alphabet, automaton, tuple(word)))

    def test_the_example(self):
        begins_with_one = Automaton(2, 0, [1], [[2, 1], [1, 1], [2, 2]])
        self.assertEqual(nearest_order(Alphabet(2, [(0,), (1,)]), begins_with_one, (0, 0, 1)), ((1, 0, 0), 2))

    def test_drawn_automata(self):
        rng = random.Random(170)
        for alphabet in ALPHABETS:
            letters = len(alphabet.letters)
            for _ in range(8):
                automaton = random_automaton(rng, letters, rng.randint(2, 6))
                for word in rng.sample(short_words(alphabet, 200), 4) + [random_word(rng, alphabet, 7)]:
                    self.check(alphabet, automaton, word)

    def test_a_few_orders_of_one_word(self):
        rng = random.Random(171)
        for alphabet in (FREE, SHARED, RING, APART):
            for _ in range(12):
                word = random_word(rng, alphabet, 7)
                same = sorted(orders(alphabet, word))
                chosen = rng.sample(same, min(len(same), rng.randint(1, 3)))
                self.check(alphabet, automaton_of_words(len(alphabet.letters), chosen), word)

    def test_closed_sets(self):
        rng = random.Random(172)
        for alphabet in ALPHABETS:
            automaton = closed_automaton(rng, alphabet, [2] * alphabet.places)
            for _ in range(6):
                word = random_word(rng, alphabet, 10)
                expected = (word, 0) if accepts(automaton, word) else None
                self.assertEqual(nearest_order(alphabet, automaton, word), expected)

    def test_a_word_that_is_accepted_itself(self):
        for alphabet in ALPHABETS:
            letters = len(alphabet.letters)
            everything = Automaton(letters, 0, [0], [[0] * letters])
            for word in short_words(alphabet, 60):
                self.assertEqual(nearest_order(alphabet, everything, word), (word, 0))
        self.assertEqual(nearest_order(FREE, automaton_of_words(2, [(0, 1), (1, 0)]), (1, 0)), ((1, 0), 0))

    def test_no_accepted_order(self):
        for alphabet in ALPHABETS:
            letters = len(alphabet.letters)
            nothing = Automaton(letters, 0, [], [[0] * letters])
            for word in short_words(alphabet, 30):
                self.assertIsNone(nearest_order(alphabet, nothing, word))
        self.assertIsNone(nearest_order(SHARED, automaton_of_words(3, [(2, 0)]), (0, 2)))

    def test_the_empty_word(self):
        self.assertEqual(nearest_order(FREE, Automaton(2, 0, [0], [[1, 1], [1, 1]]), ()), ((), 0))
        self.assertIsNone(nearest_order(FREE, Automaton(2, 0, [1], [[1, 1], [1, 1]]), ()))

    def test_all_is_turned_around(self):
        word = (3,) * 3 + (2,) * 3 + (1,) * 3 + (0,) * 3
        ascending = Automaton(4, 0, [0, 1, 2, 3], [
            [letter if letter >= state else 4 for letter in range(4)] for state in range(4)
        ] + [[4] * 4])
        self.assertEqual(nearest_order(APART, ascending, word), (tuple(sorted(word)), 54))
        self.assertEqual(nearest_order(APART, ascending, tuple(sorted(word))), (tuple(sorted(word)), 0))
        self.assertEqual(len(swaps(APART, word, tuple(sorted(word)))), 54)

    def test_words_of_twelve_letters(self):
        rng = random.Random(173)
        for alphabet in ALPHABETS:
            letters = len(alphabet.letters)
            for _ in range(5):
                word = random_word(rng, alphabet, 12)
                found = nearest_order(alphabet, random_automaton(rng, letters, 8), word)
                if found is not None:
                    self.assertEqual(len(swaps(alphabet, word, found[0])), found[1])
