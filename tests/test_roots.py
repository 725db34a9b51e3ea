import itertools
import random
import unittest

from placewords.alphabets import Alphabet
from placewords.roots import commute, crossing, root

from tests.samples import (
    ALPHABETS, APART, CHAIN, FREE, MIXED, RING, SHARED, SINGLE, apart, orders, random_word, short_words,
)


def least(alphabet, word):
    return min(orders(alphabet, word))


def plain_root(alphabet, word):
    """All words of a part of the length are tried, the shortest ones first."""
    same = orders(alphabet, word)
    for size in range(1, len(word) + 1):
        if len(word) % size == 0:
            for order in sorted(same):
                if order[:size] * (len(word) // size) in same:
                    return (order[:size], len(word) // size)


def plain_crossing(alphabet, x, y, u, v):
    """The words p, r, s and q, found by trying all ways to cut all orders of x and u."""
    found = set()
    for first in orders(alphabet, x):
        for second in orders(alphabet, u):
            for size in range(min(len(x), len(u)) + 1):
                p, r, s = first[:size], first[size:], second[size:]
                if p == second[:size] and all(apart(alphabet, a, b) for a in r for b in s):
                    for order in orders(alphabet, y):
                        q = order[len(s):]
                        if order[:len(s)] == s and tuple(v) in orders(alphabet, r + q):
                            found.add(tuple(least(alphabet, word) for word in (p, r, s, q)))
    return found


class RootTest(unittest.TestCase):
    def test_the_examples(self):
        alphabet = Alphabet(2, [(0,), (1,), (0, 1)])
        found = (root(alphabet, (0, 1, 2, 1, 0, 2)), crossing(alphabet, (0,), (1, 2), (1,), (0, 2)))
        self.assertEqual(found, (((0, 1, 2), 2), ((), (0,), (1,), (2,))))

    def test_short_words(self):
        for alphabet in ALPHABETS:
            for word in short_words(alphabet, 400):
                if word:
                    found = root(alphabet, list(word))
                    self.assertEqual(found, plain_root(alphabet, word))
                    self.assertEqual((type(found), type(found[0])), (tuple, tuple))

    def test_powers_up_to_order(self):
        rng = random.Random(58)
        for alphabet in ALPHABETS:
            for _ in range(10):
                part = random_word(rng, alphabet, rng.randint(1, 3))
                word, many = plain_root(alphabet, part)
                for exponent in (1, 2, 3):
                    power = part * exponent
                    if len(power) <= 7:
                        for order in orders(alphabet, power):
                            self.assertEqual(root(alphabet, order), (word, many * exponent))

    def test_long_powers(self):
        self.assertEqual(root(FREE, (0,) * 60 + (1,) * 36), ((0,) * 5 + (1,) * 3, 12))
        self.assertEqual(root(SHARED, (0, 1, 2, 1, 0, 2) * 50), ((0, 1, 2), 100))
        self.assertEqual(root(SHARED, (0, 1, 2) * 99 + (0, 2, 1)), ((0, 1, 2) * 99 + (0, 2, 1), 1))
        self.assertEqual(root(SINGLE, (0,) * 500), ((0,), 500))

    def test_words_that_are_their_own_root(self):
        for word in ((0,), (1, 0), (0, 0, 1), (2, 0, 2, 1), (0, 2, 2, 0), (0, 2, 1, 2)):
            self.assertEqual(root(SHARED, word), (least(SHARED, word), 1))
        # All letters come twice, but not in the same order.
        self.assertEqual(root(CHAIN, (0, 1, 1, 0)), ((0, 1, 1, 0), 1))
        self.assertEqual(root(CHAIN, (0, 1, 0, 1)), ((0, 1), 2))

    def test_components(self):
        self.assertEqual(root(FREE, (0, 0, 1, 1, 0, 0)), ((0, 0, 1), 2))
        self.assertEqual(root(FREE, (0, 0, 1, 1, 1)), ((0, 0, 1, 1, 1), 1))
        self.assertEqual(root(APART, (3, 2, 1, 0) * 3), ((0, 1, 2, 3), 3))
        # A square at one component and a cube at the other one.
        alphabet = Alphabet(2, [(0,), (0,), (1,)])
        self.assertEqual(root(alphabet, (0, 1, 0, 1, 2, 2, 2)), ((0, 1, 0, 1, 2, 2, 2), 1))
        self.assertEqual(root(alphabet, (2, 0, 1, 2, 2, 0, 1, 2)), ((0, 1, 2, 2), 2))


class CommuteTest(unittest.TestCase):
    def test_short_words(self):
        rng = random.Random(59)
        for alphabet in ALPHABETS:
            words = [word for word in short_words(alphabet, 150) if len(word) <= 3]
            for _ in range(150):
                first, second = rng.choice(words), rng.choice(words)
                expected = second + first in orders(alphabet, first + second)
                self.assertIs(commute(alphabet, list(first), second), expected)
                self.assertIs(commute(alphabet, second, list(first)), expected)

    def test_kinds_of_words(self):
        for alphabet in ALPHABETS:
            for word in short_words(alphabet, 60):
                self.assertIs(commute(alphabet, word, ()), True)
                self.assertIs(commute(alphabet, (), word), True)
                self.assertIs(commute(alphabet, word, word), True)
                self.assertIs(commute(alphabet, word * 2, word * 3), True)
        self.assertIs(commute(FREE, (0, 0), (1,)), True)
        self.assertIs(commute(SHARED, (0, 1), (1, 0)), True)
        self.assertIs(commute(SHARED, (0, 1), (0,)), True)
        self.assertIs(commute(SHARED, (0,), (2,)), False)
        self.assertIs(commute(SHARED, (0, 2), (1, 2)), False)
        # Different words with a common root at one place and nothing in common at the other one.
        self.assertIs(commute(APART, (0, 0, 1), (0, 2)), True)


class CrossingTest(unittest.TestCase):
    def check(self, alphabet, x, y, u, v):
        found = crossing(alphabet, list(x), y, list(u), v)
        if tuple(u + v) not in orders(alphabet, x + y):
            self.assertIsNone(found)
            return
        self.assertIs(type(found), tuple)
        p, r, s, q = found
        for word in found:
            self.assertEqual(word, least(alphabet, word))
        for whole, one, other in ((x, p, r), (y, s, q), (u, p, s), (v, r, q)):
            self.assertIn(one + other, orders(alphabet, whole))
        for a, b in itertools.product(r, s):
            self.assertTrue(apart(alphabet, a, b))

    def test_all_ways_to_cut_words(self):
        rng = random.Random(60)
        for alphabet in ALPHABETS:
            for _ in range(12):
                word = random_word(rng, alphabet, rng.randint(0, 7))
                same = sorted(orders(alphabet, word))
                for _ in range(12):
                    one, other = rng.choice(same), rng.choice(same)
                    i, j = rng.randint(0, len(word)), rng.randint(0, len(word))
                    self.check(alphabet, one[:i], one[i:], other[:j], other[j:])

    def test_determined(self):
        rng = random.Random(61)
        for alphabet in (FREE, SHARED, CHAIN, RING, MIXED):
            for _ in range(25):
                word = random_word(rng, alphabet, 5)
                same = sorted(orders(alphabet, word))
                one, other = rng.choice(same), rng.choice(same)
                i, j = rng.randint(0, 5), rng.randint(0, 5)
                four = (one[:i], one[i:], other[:j], other[j:])
                self.assertEqual(plain_crossing(alphabet, *four), {crossing(alphabet, *four)})

    def test_words_that_do_not_fit(self):
        rng = random.Random(62)
        for alphabet in ALPHABETS:
            for _ in range(40):
                self.check(alphabet, *[random_word(rng, alphabet, rng.randint(0, 2)) for _ in range(4)])
        self.assertIsNone(crossing(SHARED, (0,), (2,), (2,), (0,)))
        self.assertIsNone(crossing(SHARED, (0,), (), (), ()))
        self.assertIsNone(crossing(FREE, (0,), (1,), (1,), (0, 0)))

    def test_empty_words(self):
        self.assertEqual(crossing(SHARED, (), (), (), ()), ((), (), (), ()))
        self.assertEqual(crossing(SHARED, (1, 0), (), (), (0, 1)), ((), (0, 1), (), ()))
        self.assertEqual(crossing(SHARED, (), (1, 0), (0, 1), ()), ((), (), (0, 1), ()))
        self.assertEqual(crossing(SHARED, (), (1, 0), (), (0, 1)), ((), (), (), (0, 1)))
        self.assertEqual(crossing(SHARED, (1, 0), (), (0, 1), ()), ((0, 1), (), (), ()))
