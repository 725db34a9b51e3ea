import random
import unittest

from placewords.alphabets import Alphabet
from placewords.merges import merge
from placewords.prefixes import join

from tests.samples import (
    ALPHABETS, APART, CHAIN, FREE, SHARED, apart, one_swap, orders, random_word, short_words,
)
from tests.test_prefixes import prefixes


def plain_merge(alphabet, first, second):
    """The greatest common prefix, among all of them; then all pairs of events behind it."""
    common = max(set(prefixes(alphabet, first)) & set(prefixes(alphabet, second)), key=len)

    def behind(word):
        return [
            i for i in range(len(word)) if word[:i].count(word[i]) >= common.count(word[i])
        ]

    for i in behind(first):
        for j in behind(second):
            if not apart(alphabet, first[i], second[j]):
                return ("conflict", i, j)
    rest = tuple(second[j] for j in behind(second))
    return ("merged", min(orders(alphabet, tuple(first) + rest)))


class MergesTest(unittest.TestCase):
    def check(self, alphabet, first, second):
        found = merge(alphabet, list(first), second)
        self.assertIs(type(found), tuple)
        self.assertEqual(found, plain_merge(alphabet, first, second), (first, second))
        joined = join(alphabet, first, second)
        if joined is None:
            self.assertEqual((found[0], len(found)), ("conflict", 3))
        else:
            self.assertEqual(found, ("merged", joined))
        return found[0]

    def test_the_example(self):
        alphabet = Alphabet(2, [(0,), (1,), (0, 1)])
        found = (merge(alphabet, (0, 1), (0, 0)), merge(alphabet, (0, 1, 2), (1, 0, 0)))
        self.assertEqual(found, (('merged', (0, 0, 1)), ('conflict', 2, 2)))

    def test_drawn_words(self):
        rng = random.Random(92)
        kinds = {"merged": 0, "conflict": 0}
        for alphabet in ALPHABETS:
            words = [word for word in short_words(alphabet, 400) if len(word) <= 4]
            for _ in range(80):
                kinds[self.check(alphabet, rng.choice(words), rng.choice(words))] += 1
        self.assertGreater(min(kinds.values()), 100)

    def test_words_with_a_common_beginning(self):
        rng = random.Random(93)
        kinds = {"merged": 0, "conflict": 0}
        for alphabet in ALPHABETS:
            for _ in range(40):
                begun = random_word(rng, alphabet, rng.randint(1, 4))
                first = begun + random_word(rng, alphabet, rng.randint(0, 3))
                second = begun + random_word(rng, alphabet, rng.randint(0, 2))
                for _ in range(6):
                    first = rng.choice(list(one_swap(alphabet, first)) or [first])
                    second = rng.choice(list(one_swap(alphabet, second)) or [second])
                kinds[self.check(alphabet, first, second)] += 1
        self.assertGreater(min(kinds.values()), 30)

    def test_equal_words_and_prefixes(self):
        rng = random.Random(94)
        for alphabet in ALPHABETS:
            for _ in range(10):
                word = random_word(rng, alphabet, rng.randint(0, 6))
                least = min(orders(alphabet, word))
                self.assertEqual(merge(alphabet, word, word), ("merged", least))
                for order in orders(alphabet, word):
                    self.assertEqual(merge(alphabet, word, order), ("merged", least))
                    for size in range(len(order)):
                        self.assertEqual(merge(alphabet, order[:size], word), ("merged", least))
                        self.assertEqual(merge(alphabet, word, order[:size]), ("merged", least))

    def test_the_empty_word(self):
        self.assertEqual(merge(SHARED, (), ()), ("merged", ()))
        self.assertEqual(merge(SHARED, (1, 0), ()), ("merged", (0, 1)))
        self.assertEqual(merge(SHARED, (), (1, 0)), ("merged", (0, 1)))

    def test_words_that_have_nothing_in_common(self):
        self.assertEqual(merge(FREE, (1, 1), (0, 0)), ("merged", (0, 0, 1, 1)))
        self.assertEqual(merge(APART, (3, 1), (2, 0)), ("merged", (0, 1, 2, 3)))

    def test_least_conflicts(self):
        # The word 2 0 1 is common; a letter 0 is left of the first word and a letter 2 of the second.
        self.assertEqual(merge(SHARED, (2, 0, 0, 1), (2, 0, 1, 2)), ("conflict", 2, 3))
        self.assertEqual(merge(SHARED, (1, 0, 2), (1, 2, 2)), ("conflict", 1, 1))
        self.assertEqual(merge(SHARED, (0,), (2,)), ("conflict", 0, 0))
        self.assertEqual(merge(CHAIN, (2, 0), (2, 1)), ("conflict", 1, 1))
        # An event of the common prefix can stand behind others of its word.
        self.assertEqual(merge(SHARED, (1, 1, 0), (0, 2)), ("conflict", 0, 1))

    def test_arguments_stay_as_they_are(self):
        first, second = [0, 1, 2], [1, 0, 0]
        merge(SHARED, first, second)
        self.assertEqual((first, second), ([0, 1, 2], [1, 0, 0]))
