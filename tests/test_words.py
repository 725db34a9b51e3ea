import random
import unittest

from placewords.alphabets import Alphabet
from placewords.words import equivalent, place_word, swapped, swaps

from tests.samples import ALPHABETS, FREE, SHARED, orders, random_word, short_words


class PlaceWordTest(unittest.TestCase):
    def test_letters_of_the_place_in_order(self):
        self.assertEqual(place_word(SHARED, (0, 1, 2, 1, 0), 0), (0, 2, 0))
        self.assertEqual(place_word(SHARED, [0, 1, 2, 1, 0], 1), (1, 2, 1))

    def test_empty(self):
        self.assertEqual(place_word(SHARED, (), 0), ())
        self.assertEqual(place_word(SHARED, [1, 1], 0), ())


class EquivalentTest(unittest.TestCase):
    def test_against_all_swaps(self):
        for alphabet in ALPHABETS:
            words = [word for word in short_words(alphabet, 300) if len(word) <= 4]
            for word in words:
                same = orders(alphabet, word)
                for other in words:
                    self.assertIs(equivalent(alphabet, word, other), other in same)

    def test_empty_words_and_lists(self):
        self.assertIs(equivalent(FREE, (), []), True)
        self.assertIs(equivalent(FREE, [], (0,)), False)
        self.assertIs(equivalent(FREE, [0, 1], (1, 0)), True)

    def test_letters_changed_taken_away_and_put_in(self):
        rng = random.Random(5)
        for alphabet in ALPHABETS:
            for _ in range(20):
                word = random_word(rng, alphabet, 30)
                at = rng.randrange(30)
                self.assertFalse(equivalent(alphabet, word, word[:at] + word[at + 1:]))
                self.assertFalse(equivalent(alphabet, word, word[:at] + (0,) + word[at:]))
                letter = rng.randrange(len(alphabet.letters))
                if letter != word[at]:
                    self.assertFalse(equivalent(alphabet, word, word[:at] + (letter,) + word[at + 1:]))

    def test_same_letters_in_another_order(self):
        self.assertIs(equivalent(SHARED, (0, 2), (2, 0)), False)
        self.assertIs(equivalent(SHARED, (0, 1, 2), (1, 0, 2)), True)


class SwapsTest(unittest.TestCase):
    def test_the_example(self):
        self.assertEqual(swaps(Alphabet(2, [(0,), (1,)]), (0, 1, 1), (1, 1, 0)), [0, 1])

    def test_equal_words_need_none(self):
        for alphabet in ALPHABETS:
            self.assertEqual(swaps(alphabet, (0, 0), [0, 0]), [])
            self.assertEqual(swaps(alphabet, (), ()), [])

    def test_none_if_the_words_are_not_equivalent(self):
        self.assertIsNone(swaps(SHARED, (0, 2), (2, 0)))
        self.assertIsNone(swaps(SHARED, (0, 1), (0, 1, 1)))
        self.assertIsNone(swaps(SHARED, (0,), ()))

    def test_they_lead_to_the_second_word_and_are_as_few_as_possible(self):
        rng = random.Random(6)
        for alphabet in ALPHABETS:
            for word in rng.sample(short_words(alphabet), 5) + [random_word(rng, alphabet, 7)]:
                for other, fewest in orders(alphabet, word).items():
                    positions = swaps(alphabet, list(word), other)
                    self.assertEqual(swapped(alphabet, word, positions), other)
                    self.assertEqual(len(positions), fewest)

    def test_arguments_are_not_modified(self):
        first, second = [0, 1, 1], [1, 1, 0]
        swaps(FREE, first, second)
        self.assertEqual((first, second), ([0, 1, 1], [1, 1, 0]))


class SwappedTest(unittest.TestCase):
    def test_one_after_the_other(self):
        self.assertEqual(swapped(FREE, (0, 1, 1), [0, 1]), (1, 1, 0))
        self.assertEqual(swapped(FREE, [0, 1], [0, 0]), (0, 1))
        self.assertEqual(swapped(FREE, [0, 0], []), (0, 0))

    def test_positions_that_are_not_there(self):
        for position in (-1, -2, 1, 2, 7):
            self.assertIsNone(swapped(FREE, (0, 1), [position]))
        self.assertIsNone(swapped(FREE, (), [0]))
        self.assertIsNone(swapped(FREE, (0, 1), [0, -1]))

    def test_dependent_letters(self):
        self.assertIsNone(swapped(FREE, (0, 0), [0]))
        self.assertIsNone(swapped(SHARED, (0, 2), [0]))
        self.assertIsNone(swapped(SHARED, (0, 1, 2), [0, 1]))

    def test_arguments_are_not_modified(self):
        word, positions = [0, 1, 1], [0, 1]
        swapped(FREE, word, positions)
        self.assertEqual((word, positions), ([0, 1, 1], [0, 1]))
