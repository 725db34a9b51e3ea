import itertools
import unittest

from placewords.alphabets import Alphabet, components, independent
from placewords.errors import InvalidAlphabet

from tests.samples import ALPHABETS, CHAIN, MIXED, apart


class AlphabetTest(unittest.TestCase):
    def refused(self, places, letters):
        with self.assertRaises(InvalidAlphabet):
            Alphabet(places, letters)

    def test_numbers_of_places(self):
        for places in (1, 2, 3, 4):
            self.assertEqual(Alphabet(places, [(places - 1,)]).places, places)
        for places in (-1, 0, 5):
            self.refused(places, [(0,)])

    def test_numbers_of_letters(self):
        for many in (1, 2, 6):
            self.assertEqual(Alphabet(1, [(0,)] * many).letters, ((0,),) * many)
        for many in (0, 7):
            self.refused(1, [(0,)] * many)

    def test_letters_that_are_refused(self):
        for letter in ((), (2,), (-1,), (0, 2), (1, 0), (0, 0), (0, 1, 1), (-1, 0)):
            self.refused(2, [(0,), letter])
            self.refused(2, [letter, (1,)])

    def test_attributes_are_tuples_that_stay(self):
        letters = [[0], [0, 1]]
        alphabet = Alphabet(2, letters)
        letters[1].append(2)
        letters.append([1])
        self.assertEqual(alphabet.letters, ((0,), (0, 1)))
        self.assertIs(type(alphabet.letters), tuple)
        self.assertTrue(all(type(letter) is tuple for letter in alphabet.letters))

    def test_arguments_are_not_modified(self):
        letters = [(0,), (0, 1)]
        Alphabet(2, letters)
        self.assertEqual(letters, [(0,), (0, 1)])


class IndependentTest(unittest.TestCase):
    def test_two_letters_are_independent_without_a_common_place(self):
        for alphabet in ALPHABETS:
            for a, b in itertools.product(range(len(alphabet.letters)), repeat=2):
                self.assertIs(independent(alphabet, a, b), apart(alphabet, a, b))

    def test_a_letter_depends_on_itself(self):
        self.assertIs(independent(CHAIN, 0, 0), False)
        self.assertIs(independent(CHAIN, 0, 2), True)


class ComponentsTest(unittest.TestCase):
    def test_the_example(self):
        self.assertEqual(components(Alphabet(3, [(0,), (0, 1), (2,)]), [2, 0, 1]), [[0, 1], [2]])

    def test_the_empty_set(self):
        self.assertEqual(components(CHAIN, []), [])

    def test_a_chain_is_connected_through_its_middle_alone(self):
        self.assertEqual(components(CHAIN, [2, 1, 0]), [[0, 1, 2]])
        self.assertEqual(components(CHAIN, [2, 0]), [[0], [2]])

    def test_all_sets_of_letters(self):
        for alphabet in ALPHABETS:
            many = len(alphabet.letters)
            for size in range(many + 1):
                for letters in itertools.combinations(range(many), size):
                    self.check(alphabet, list(reversed(letters)))

    def check(self, alphabet, letters):
        given = list(letters)
        parts = components(alphabet, letters)
        self.assertEqual(letters, given)
        self.assertEqual(sorted(letter for part in parts for letter in part), sorted(letters))
        self.assertEqual(parts, sorted(sorted(part) for part in parts))
        for part, other in itertools.combinations(parts, 2):
            self.assertTrue(all(apart(alphabet, a, b) for a in part for b in other))
        for part in parts:
            self.assertIs(type(part), list)
            self.assertTrue(part)
            for size in range(1, len(part)):
                for half in itertools.combinations(part, size):
                    others = [b for b in part if b not in half]
                    self.assertFalse(all(apart(alphabet, a, b) for a in half for b in others))

    def test_a_new_list_each_time(self):
        components(MIXED, [0]).append(7)
        self.assertEqual(components(MIXED, [0]), [[0]])
