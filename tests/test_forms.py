import itertools
import random
import unittest

from placewords.forms import is_least, layers, least_form
from placewords.words import equivalent

from tests.samples import ALPHABETS, APART, SHARED, apart, orders, random_word, short_words


class FormsTest(unittest.TestCase):
    def test_the_example(self):
        self.assertEqual(layers(SHARED, (1, 1, 0, 2)), [(0, 1), (1,), (2,)])
        self.assertEqual(least_form(SHARED, (1, 1, 0, 2)), (0, 1, 1, 2))

    def test_the_empty_word(self):
        self.assertEqual(layers(SHARED, ()), [])
        self.assertEqual(least_form(SHARED, []), ())
        self.assertIs(is_least(SHARED, []), True)

    def test_least_form_against_all_orders(self):
        for alphabet in ALPHABETS:
            for word in short_words(alphabet):
                least = min(orders(alphabet, word))
                self.assertEqual(least_form(alphabet, word), least)
                self.assertIs(is_least(alphabet, word), word == least)
                self.assertIs(is_least(alphabet, list(word)), word == least)

    def test_layers_are_those_of_the_document(self):
        for alphabet in ALPHABETS:
            for word in short_words(alphabet):
                self.check_layers(alphabet, list(word))

    def check_layers(self, alphabet, word):
        rows = layers(alphabet, word)
        self.assertIs(type(rows), list)
        self.assertTrue(equivalent(alphabet, [letter for row in rows for letter in row], word))
        for row in rows:
            self.assertIs(type(row), tuple)
            self.assertEqual(list(row), sorted(set(row)))
            self.assertTrue(all(apart(alphabet, a, b) for a, b in itertools.combinations(row, 2)))
        for row, following in zip(rows, rows[1:]):
            for letter in following:
                self.assertFalse(all(apart(alphabet, letter, other) for other in row))

    def test_layers_are_equal_for_equivalent_words_alone(self):
        for alphabet in ALPHABETS:
            kinds = {}
            for word in short_words(alphabet, 200):
                kinds.setdefault(repr(layers(alphabet, word)), set()).add(min(orders(alphabet, word)))
            self.assertTrue(all(len(leasts) == 1 for leasts in kinds.values()))

    def test_long_words(self):
        rng = random.Random(7)
        for alphabet in ALPHABETS:
            word = random_word(rng, alphabet, 500)
            least = least_form(alphabet, word)
            self.assertTrue(equivalent(alphabet, word, least))
            self.assertTrue(is_least(alphabet, least))
            self.check_layers(alphabet, word)

    def test_independent_letters(self):
        self.assertEqual(layers(APART, (3, 2, 1, 0, 3)), [(0, 1, 2, 3), (3,)])
        self.assertEqual(least_form(APART, (3, 2, 1, 0, 3)), (0, 1, 2, 3, 3))
