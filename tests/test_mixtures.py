import random
import unittest

from placewords.automata import Automaton, accepts
from placewords.mixtures import difference, gap, mixture, other_words

from tests.samples import accepted, is_numbered_and_least, random_automaton, words_up_to


class MixturesTest(unittest.TestCase):
    def pairs(self):
        rng = random.Random(12)
        for _ in range(120):
            letters = rng.randint(1, 3)
            yield (random_automaton(rng, letters, rng.randint(1, 4)), random_automaton(rng, letters, rng.randint(1, 4)))

    def test_the_example(self):
        even = Automaton(2, 0, [0], [[1, 0], [0, 1]])
        all_words = Automaton(2, 0, [0], [[0, 0]])
        self.assertEqual((difference(even, all_words), gap(even, all_words)), ((0,), None))

    def test_mixture(self):
        for first, second in self.pairs():
            one, other = accepted(first, 5), accepted(second, 5)
            for kind, expected in (("and", one & other), ("or", one | other), ("minus", one - other)):
                mixed = mixture(kind, first, second)
                self.assertEqual(accepted(mixed, 5), expected)
                self.assertTrue(is_numbered_and_least(mixed))
                self.assertEqual(mixed.letters, first.letters)

    def test_other_words(self):
        for automaton, _ in self.pairs():
            others = other_words(automaton)
            self.assertTrue(is_numbered_and_least(others))
            everything = set(words_up_to(automaton.letters, 5))
            self.assertEqual(accepted(others, 5), everything - accepted(automaton, 5))

    def test_difference_and_gap(self):
        # Two automata with 4 states at most differ, if at all, in a word of at most 6 letters.
        for first, second in self.pairs():
            words = list(words_up_to(first.letters, 6))
            different = [word for word in words if accepts(first, word) != accepts(second, word)]
            self.assertEqual(difference(first, second), different[0] if different else None)
            if different:
                gaps = [word for word in words if accepts(first, word) and not accepts(second, word)]
                found = gap(first, second)
                self.assertEqual(found if found is None or len(found) <= 6 else None, gaps[0] if gaps else None)
            else:
                self.assertIsNone(gap(first, second))

    def test_equal_sets_of_different_automata(self):
        one = Automaton(1, 0, [0], [[0]])
        two = Automaton(1, 1, [0, 1], [[1], [0], [2]])
        self.assertIsNone(difference(one, two))
        self.assertIsNone(gap(one, two))

    def test_the_empty_word_and_long_words(self):
        none = Automaton(1, 0, [], [[0]])
        one = Automaton(1, 0, [0], [[0]])
        self.assertEqual(difference(none, one), ())
        self.assertEqual(gap(one, none), ())
        self.assertIsNone(gap(none, one))
        long_word = Automaton(1, 0, [9], [[min(state + 1, 10)] for state in range(11)])
        self.assertEqual(gap(long_word, none), (0,) * 9)

    def test_the_least_of_several_shortest_words(self):
        # Words of two different letters; the first automaton refuses nothing.
        two = Automaton(2, 0, [3], [[1, 2], [4, 3], [3, 4], [4, 4], [4, 4]])
        none = Automaton(2, 0, [], [[0, 0]])
        self.assertEqual(gap(two, none), (0, 1))
        self.assertEqual(difference(none, two), (0, 1))
