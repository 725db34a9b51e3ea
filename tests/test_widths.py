import itertools
import random
import unittest

from placewords.alphabets import Alphabet
from placewords.widths import widest

from tests.samples import ALPHABETS, APART, CHAIN, ONE_PLACE, RING, SHARED, below_pairs, random_word, short_words


def plain_width(word, below):
    """The greatest number of events that are apart, over all sets of events."""
    width = 0
    for size in range(1, 5):
        for events in itertools.combinations(range(len(word)), size):
            if not any(pair in below for pair in itertools.combinations(events, 2)):
                width = size
                break
    return width


class WidthsTest(unittest.TestCase):
    def check(self, alphabet, word, width=None):
        below = below_pairs(alphabet, word)
        found = widest(alphabet, list(word))
        self.assertIs(type(found), tuple)
        apart, rows = found
        self.assertIs(type(apart), list)
        self.assertIs(type(rows), list)
        self.assertTrue(all(type(row) is list and row for row in rows))
        self.assertEqual(apart, sorted(set(apart)))
        for pair in itertools.combinations(apart, 2):
            self.assertNotIn(pair, below)
        self.assertEqual(len(rows), len(apart))
        self.assertEqual(sorted(event for row in rows for event in row), list(range(len(word))))
        for row in rows:
            for pair in zip(row, row[1:]):
                self.assertLess(*pair)
                self.assertIn(pair, below)
        if width is not None:
            self.assertEqual(len(apart), width)
        self.assertEqual(found, widest(alphabet, tuple(word)))

    def test_the_example(self):
        alphabet = Alphabet(3, [(0,), (1,), (0, 1), (2,)])
        self.assertEqual([len(part) for part in widest(alphabet, (0, 1, 2, 3))], [3, 3])

    def test_all_short_words(self):
        for alphabet in ALPHABETS:
            for word in short_words(alphabet, 300):
                self.check(alphabet, word, plain_width(word, below_pairs(alphabet, word)))

    def test_drawn_words(self):
        rng = random.Random(174)
        alphabets = ALPHABETS + [Alphabet(4, [(0, 1), (2, 3), (0, 2), (1, 3), (0,), (3,)])]
        for alphabet in alphabets:
            for _ in range(25):
                word = random_word(rng, alphabet, rng.randint(5, 12))
                self.check(alphabet, word, plain_width(word, below_pairs(alphabet, word)))

    def test_the_empty_word(self):
        for alphabet in ALPHABETS:
            self.assertEqual(widest(alphabet, ()), ([], []))

    def test_letters_that_are_all_dependent(self):
        self.check(ONE_PLACE, (0, 1, 1, 0, 1), 1)
        self.assertEqual(widest(ONE_PLACE, (0, 1, 1, 0, 1))[1], [[0, 1, 2, 3, 4]])
        self.check(CHAIN, (0, 1, 0, 1), 1)

    def test_letters_that_are_all_independent(self):
        self.check(APART, (0, 1, 2, 3), 4)
        self.check(APART, (0, 1, 2, 0, 1), 3)
        self.check(APART, (3, 3, 3, 0), 2)
        self.assertEqual(sorted(widest(APART, (0, 1, 0, 1))[1]), [[0, 2], [1, 3]])

    def test_rows_that_pass_from_place_to_place(self):
        # The lines of the places are more rows than there must be.
        self.check(Alphabet(3, [(0,), (0, 1), (1, 2), (2,)]), (0, 1, 2, 3), 1)
        self.check(RING, (0, 2, 1, 3, 0, 2), 2)
        self.check(RING, (0, 1, 2, 3), 1)
        self.check(SHARED, (0, 2, 1, 2, 0), 1)
        self.check(SHARED, (0, 2, 1, 2, 0, 1), 2)
        self.check(Alphabet(4, [(0,), (1,), (2,), (3,), (0, 1), (2, 3)]), (0, 4, 1, 2, 5, 3), 2)

    def test_long_words(self):
        rng = random.Random(175)
        for alphabet in (RING, CHAIN, Alphabet(4, [(0, 1), (2, 3), (0, 2), (1, 3), (0,), (3,)])):
            word = random_word(rng, alphabet, 70)
            self.check(alphabet, word)
        apart, rows = widest(RING, random_word(rng, RING, 600))
        self.assertEqual((len(apart), len(rows)), (2, 2))
