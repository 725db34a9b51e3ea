import random
import unittest

from placewords.alphabets import Alphabet
from placewords.ledgers import Ledger, gathered

from tests.samples import ALPHABETS, APART, CHAIN, MIXED, SHARED, orders, past, random_word, short_words


def counted(alphabet, word, place):
    """How often each letter is in the view of a place."""
    seen = past(alphabet, word, place)
    return tuple(sum(1 for e in seen if word[e] == letter) for letter in range(len(alphabet.letters)))


def plain_ledger(alphabet, word):
    return [counted(alphabet, word, place) for place in range(alphabet.places)]


class LedgersTest(unittest.TestCase):
    def known(self, alphabet, ledger):
        return [
            tuple(ledger.known(place, letter) for letter in range(len(alphabet.letters)))
            for place in range(alphabet.places)
        ]

    def test_the_example(self):
        self.assertEqual(gathered(Alphabet(2, [(0,), (1,), (0, 1)]), (0, 1, 2, 1)), [(1, 1, 1), (1, 2, 1)])

    def test_letter_by_letter(self):
        rng = random.Random(47)
        for alphabet in ALPHABETS:
            for _ in range(4):
                word = random_word(rng, alphabet, 14)
                ledger = Ledger(alphabet)
                self.assertEqual(self.known(alphabet, ledger), plain_ledger(alphabet, ()))
                for size in range(1, len(word) + 1):
                    self.assertIsNone(ledger.happen(word[size - 1]))
                    self.assertEqual(self.known(alphabet, ledger), plain_ledger(alphabet, word[:size]))

    def test_gathered(self):
        for alphabet in ALPHABETS:
            for word in short_words(alphabet, 120):
                found = gathered(alphabet, list(word))
                self.assertIs(type(found), list)
                self.assertTrue(all(type(row) is tuple for row in found))
                self.assertEqual(found, plain_ledger(alphabet, word))

    def test_equivalent_words(self):
        rng = random.Random(48)
        for alphabet in ALPHABETS:
            word = random_word(rng, alphabet, 6)
            for order in orders(alphabet, word):
                self.assertEqual(gathered(alphabet, order), gathered(alphabet, word))

    def test_letters_of_several_places(self):
        self.assertEqual(gathered(CHAIN, (0, 2, 1)), [(1, 0, 0), (1, 1, 1), (1, 1, 1)])
        self.assertEqual(gathered(MIXED, (2,)), [(0, 0, 1, 0, 0, 0)] * 4)
        self.assertEqual(gathered(MIXED, (0, 1, 3, 2, 4))[0], (1, 1, 1, 1, 0, 0))
        self.assertEqual(gathered(MIXED, (0, 1, 3, 2, 4))[2], (1, 1, 1, 1, 1, 0))

    def test_places_that_know_nothing_of_one_another(self):
        expected = [(2, 0, 0, 0), (0, 1, 0, 0), (0, 0, 0, 0), (0, 0, 0, 3)]
        self.assertEqual(gathered(APART, (0, 3, 1, 3, 0, 3)), expected)
        self.assertEqual(gathered(CHAIN, (2, 2, 0)), [(1, 0, 0), (1, 0, 0), (0, 0, 2)])

    def test_a_place_without_letters(self):
        self.assertEqual(gathered(Alphabet(2, [(0,)]), (0, 0)), [(2,), (0,)])

    def test_what_is_returned_is_new_and_ledgers_stand_alone(self):
        found = gathered(SHARED, (0, 2))
        found.clear()
        self.assertEqual(gathered(SHARED, (0, 2)), [(1, 0, 1), (1, 0, 1)])
        one, other = Ledger(SHARED), Ledger(SHARED)
        one.happen(0)
        self.assertEqual((one.known(0, 0), other.known(0, 0)), (1, 0))

    def test_long_words(self):
        ledger = Ledger(SHARED)
        for _ in range(3000):
            ledger.happen(2)
        self.assertEqual((ledger.known(0, 2), ledger.known(1, 2)), (3000, 3000))
