import math
import random
import unittest

from placewords.alphabets import Alphabet
from placewords.prefixes import common_prefix, join, order_count, rest

from tests.samples import ALPHABETS, APART, CHAIN, FREE, SHARED, orders, random_word, short_words


def prefixes(alphabet, word):
    """The least form of each prefix of a word up to order, with that of its rest."""
    found = {}
    for order in orders(alphabet, word):
        for size in range(len(word) + 1):
            found[min(orders(alphabet, order[:size]))] = min(orders(alphabet, order[size:]))
    return found


class PrefixesTest(unittest.TestCase):
    def pairs(self, alphabet, many):
        rng = random.Random(9)
        words = [word for word in short_words(alphabet) if len(word) <= 4]
        words += [random_word(rng, alphabet, 5) for _ in range(20)]
        return [(rng.choice(words), rng.choice(words)) for _ in range(many)]

    def test_the_examples(self):
        alphabet = Alphabet(2, [(0,), (1,), (0, 1)])
        found = (
            rest(alphabet, (1,), (0, 1, 2)), common_prefix(alphabet, (0, 2), (1, 0)), join(alphabet, (0, 0), (1, 0))
        )
        self.assertEqual(found, ((0, 2), (0,), (0, 0, 1)))
        self.assertEqual(order_count(Alphabet(2, [(0,), (1,), (0, 1)]), (0, 0, 1, 2)), 3)

    def test_rest(self):
        for alphabet in ALPHABETS:
            for first, second in self.pairs(alphabet, 60):
                expected = prefixes(alphabet, second).get(min(orders(alphabet, first)))
                self.assertEqual(rest(alphabet, first, list(second)), expected)

    def test_rests_of_prefixes(self):
        for alphabet in ALPHABETS:
            for word, _ in self.pairs(alphabet, 8):
                for prefix, behind in prefixes(alphabet, word).items():
                    for order in orders(alphabet, prefix):
                        self.assertEqual(rest(alphabet, order, word), behind)

    def test_common_prefix(self):
        for alphabet in ALPHABETS:
            for first, second in self.pairs(alphabet, 60):
                common = set(prefixes(alphabet, first)) & set(prefixes(alphabet, second))
                self.assertEqual(common_prefix(alphabet, list(first), second), max(common, key=len))
                for prefix in common:
                    self.assertIsNotNone(rest(alphabet, prefix, max(common, key=len)))

    def test_join(self):
        # Up to order a join has, of each letter, the greater number of both words.
        for alphabet in ALPHABETS:
            short = [pair for pair in self.pairs(alphabet, 60) if len(pair[0]) + len(pair[1]) <= 7]
            for first, second in short:
                found = join(alphabet, first, list(second))
                candidates = self.joins(alphabet, first, second)
                if found is None:
                    self.assertEqual(candidates, set())
                else:
                    self.assertEqual(candidates, {found})
                self.assertEqual(join(alphabet, second, first), found)

    def joins(self, alphabet, first, second):
        more = []
        for letter in range(len(alphabet.letters)):
            more += [letter] * max(0, second.count(letter) - first.count(letter))
        ends = {()}
        for _ in more:
            ends = {end + (letter,) for end in ends for letter in set(more) if end.count(letter) < more.count(letter)}
        words = {min(orders(alphabet, first + end)) for end in ends}
        least_second = min(orders(alphabet, second))
        return {word for word in words if least_second in prefixes(alphabet, word)}

    def test_empty_and_equal_words(self):
        for alphabet in ALPHABETS:
            for word, _ in self.pairs(alphabet, 10):
                least = min(orders(alphabet, word))
                self.assertEqual(rest(alphabet, (), word), least)
                self.assertEqual(rest(alphabet, word, word), ())
                self.assertEqual(rest(alphabet, word, ()), () if word == () else None)
                self.assertEqual(common_prefix(alphabet, (), word), ())
                self.assertEqual(common_prefix(alphabet, word, []), ())
                self.assertEqual(common_prefix(alphabet, word, word), least)
                self.assertEqual(join(alphabet, (), word), least)
                self.assertEqual(join(alphabet, word, ()), least)
                self.assertEqual(join(alphabet, word, word), least)

    def test_one_word_is_a_prefix_of_the_other_one(self):
        self.assertEqual(common_prefix(SHARED, (1,), (0, 1, 2)), (1,))
        self.assertEqual(join(SHARED, (1,), (0, 1, 2)), (0, 1, 2))
        self.assertEqual(rest(SHARED, (0, 1, 2), (1,)), None)

    def test_there_is_no_join(self):
        self.assertIsNone(join(SHARED, (0,), (2,)))
        self.assertIsNone(join(SHARED, (0, 1, 2), (1, 0, 0)))

    def test_order_count(self):
        for alphabet in ALPHABETS:
            for word in short_words(alphabet):
                self.assertEqual(order_count(alphabet, word), len(orders(alphabet, word)))

    def test_order_count_of_other_words(self):
        rng = random.Random(10)
        for alphabet in ALPHABETS:
            word = random_word(rng, alphabet, 8)
            self.assertEqual(order_count(alphabet, list(word)), len(orders(alphabet, word)))
        self.assertEqual(order_count(FREE, ()), 1)
        self.assertEqual(order_count(CHAIN, (0, 2) * 40), math.comb(80, 40))
        self.assertEqual(order_count(APART, (0, 1, 2, 3) * 10), math.factorial(40) // math.factorial(10) ** 4)
