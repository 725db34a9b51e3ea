import random
import unittest

from placewords.alphabets import Alphabet
from placewords.counts import word_count
from placewords.forms import is_least, least_form
from placewords.ranks import rank_of_word, word_at_rank

from tests.samples import ALPHABETS, APART, FREE, MIXED, RING, SHARED, SINGLE, random_word, words_up_to

DEPENDENT = Alphabet(2, [(0, 1), (0,), (0,)])
SIX = Alphabet(4, [(0,), (1,), (2,), (3,), (0,), (1,)])


def least_words_of(alphabet, length):
    """All least words of a length in ascending order."""
    words = words_up_to(len(alphabet.letters), length)
    return [word for word in words if len(word) == length and is_least(alphabet, word)]


class RanksTest(unittest.TestCase):
    def test_the_example(self):
        alphabet = Alphabet(2, [(0,), (1,), (0, 1)])
        found = (rank_of_word(alphabet, (1, 1)), word_at_rank(alphabet, 2, 4), word_at_rank(alphabet, 1, 3))
        self.assertEqual(found, (3, (1, 2), None))

    def test_all_least_words_of_short_lengths(self):
        for alphabet in ALPHABETS + [DEPENDENT, SIX]:
            for length in range(5 if len(alphabet.letters) > 3 else 7):
                words = least_words_of(alphabet, length)
                self.assertEqual(words, sorted(words))
                for rank, word in enumerate(words):
                    self.assertEqual(rank_of_word(alphabet, word), rank)
                    self.assertEqual(rank_of_word(alphabet, list(word)), rank)
                    self.assertEqual(word_at_rank(alphabet, length, rank), word)
                for rank in (len(words), len(words) + 1, 2 * len(words), 10 ** 30):
                    self.assertIsNone(word_at_rank(alphabet, length, rank))
                self.assertIs(type(word_at_rank(alphabet, length, 0)), tuple)

    def test_length_0(self):
        for alphabet in ALPHABETS:
            self.assertEqual(rank_of_word(alphabet, ()), 0)
            self.assertEqual(word_at_rank(alphabet, 0, 0), ())
            self.assertIsNone(word_at_rank(alphabet, 0, 1))

    def test_one_letter(self):
        for length in (1, 5, 100):
            self.assertEqual(rank_of_word(SINGLE, (0,) * length), 0)
            self.assertEqual(word_at_rank(SINGLE, length, 0), (0,) * length)
            self.assertIsNone(word_at_rank(SINGLE, length, 1))

    def test_letters_that_are_all_dependent(self):
        # All words are least, so ranks are numbers written with the letters as digits.
        for length in (1, 4, 40):
            for rank in (0, 1, 2, 3 ** length // 2, 3 ** length - 2, 3 ** length - 1):
                word = word_at_rank(DEPENDENT, length, rank)
                number = 0
                for letter in word:
                    number = 3 * number + letter
                self.assertEqual((len(word), number, rank_of_word(DEPENDENT, word)), (length, rank, rank))
            self.assertIsNone(word_at_rank(DEPENDENT, length, 3 ** length))

    def test_letters_that_are_all_independent(self):
        for length in (1, 3, 60):
            self.assertEqual([word_at_rank(FREE, length, rank) for rank in range(length + 2)], [
                *[(0,) * (length - ones) + (1,) * ones for ones in range(length + 1)], None,
            ])
        self.assertEqual(word_at_rank(APART, 50, word_count(APART, 50) - 1), (3,) * 50)

    def test_long_lengths(self):
        rng = random.Random(105)
        for alphabet in (SHARED, RING, MIXED, SIX, DEPENDENT):
            for length in (60, 100):
                many = word_count(alphabet, length)
                self.assertIsNone(word_at_rank(alphabet, length, many))
                self.assertIsNotNone(word_at_rank(alphabet, length, many - 1))
                for _ in range(4):
                    rank = rng.randrange(many - 1)
                    word = word_at_rank(alphabet, length, rank)
                    following = word_at_rank(alphabet, length, rank + 1)
                    self.assertEqual(len(word), length)
                    self.assertTrue(is_least(alphabet, word))
                    self.assertEqual(rank_of_word(alphabet, word), rank)
                    self.assertEqual(rank_of_word(alphabet, following), rank + 1)
                    self.assertLess(word, following)
                    other = least_form(alphabet, random_word(rng, alphabet, length))
                    self.assertEqual(word_at_rank(alphabet, length, rank_of_word(alphabet, other)), other)
                    self.assertEqual(rank_of_word(alphabet, other) < rank, other < word)
