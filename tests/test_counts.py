import itertools
import random
import unittest

from placewords.alphabets import Alphabet
from placewords.automata import Automaton, accepts
from placewords.closure import least_words
from placewords.counts import accepted_count, group_counts, word_count
from placewords.errors import NotClosed
from placewords.forms import is_least

from tests.samples import (
    ALPHABETS, APART, CHAIN, FREE, MIXED, ONE_PLACE, RING, SHARED, SINGLE, all_orders_automaton, apart,
    automaton_of_words, closed_automaton, orders, random_word,
)


def plain_groups(alphabet):
    """The number of groups of each size, all sets of letters tried."""
    letters = range(len(alphabet.letters))
    counts = [
        sum(all(apart(alphabet, a, b) for a, b in itertools.combinations(group, 2))
            for group in itertools.combinations(letters, size))
        for size in range(len(alphabet.letters) + 1)
    ]
    return [count for count in counts if count > 0]


def least_words_of(alphabet, length):
    return [word for word in itertools.product(range(len(alphabet.letters)), repeat=length)
            if is_least(alphabet, word)]


def counted_by_paths(automaton, length, other):
    """How many words of a length two automata both accept, counted letter by letter."""
    counts = {(automaton.start, other.start): 1}
    for _ in range(length):
        following = {}
        for (p, q), count in counts.items():
            for letter in range(automaton.letters):
                pair = (automaton.rows[p][letter], other.rows[q][letter])
                following[pair] = following.get(pair, 0) + count
        counts = following
    return sum(count for (p, q), count in counts.items() if p in automaton.finals and q in other.finals)


class CountsTest(unittest.TestCase):
    def test_the_example(self):
        alphabet = Alphabet(3, [(0,), (1,), (0, 1), (2,)])
        found = (group_counts(alphabet), [word_count(alphabet, length) for length in (0, 1, 2, 3)])
        self.assertEqual(found, ([1, 4, 4, 1], [1, 4, 12, 33]))

    def test_groups(self):
        for alphabet in ALPHABETS:
            self.assertEqual(group_counts(alphabet), plain_groups(alphabet))
            self.assertIs(type(group_counts(alphabet)), list)
        self.assertEqual(group_counts(ONE_PLACE), [1, 2])
        self.assertEqual(group_counts(SINGLE), [1, 1])
        self.assertEqual(group_counts(APART), [1, 4, 6, 4, 1])
        self.assertEqual(group_counts(RING), [1, 4, 2])
        self.assertEqual(group_counts(Alphabet(2, [(0, 1)] * 6)), [1, 6])

    def test_words_of_short_lengths(self):
        for alphabet in ALPHABETS:
            letters = len(alphabet.letters)
            for length in range(7 if letters < 4 else 6 if letters == 4 else 5):
                self.assertEqual(word_count(alphabet, length), len(least_words_of(alphabet, length)))

    def test_the_sum(self):
        for alphabet in ALPHABETS:
            groups = plain_groups(alphabet)
            counts = [word_count(alphabet, length) for length in range(201)]
            self.assertEqual(counts[0], 1)
            for n in range(1, 201):
                total = sum((-1) ** k * g * counts[n - k] for k, g in enumerate(groups) if k <= n)
                self.assertEqual(total, 0)

    def test_great_lengths(self):
        self.assertEqual(word_count(ONE_PLACE, 200), 2 ** 200)
        self.assertEqual(word_count(SINGLE, 200), 1)
        self.assertEqual(word_count(FREE, 200), 201)
        self.assertEqual(word_count(APART, 200), 203 * 202 * 201 // 6)
        for alphabet in ALPHABETS:
            automaton = least_words(alphabet)
            for length in (50, 200):
                self.assertEqual(word_count(alphabet, length), counted_by_paths(automaton, length, automaton))

    def test_accepted_words_of_short_lengths(self):
        rng = random.Random(83)
        for alphabet in ALPHABETS:
            letters = len(alphabet.letters)
            lists = [least_words_of(alphabet, length) for length in range(6 if letters < 4 else 5)]
            automata = [
                closed_automaton(rng, alphabet, [rng.randint(1, 3) for _ in range(alphabet.places)]) for _ in range(4)
            ]
            automata.append(all_orders_automaton(alphabet, [random_word(rng, alphabet, n) for n in (0, 2, 3, 3)]))
            for automaton in automata:
                for length, words in enumerate(lists):
                    expected = sum(accepts(automaton, word) for word in words)
                    self.assertEqual(accepted_count(alphabet, automaton, length), expected)

    def test_accepted_words_of_great_lengths(self):
        rng = random.Random(84)
        for alphabet in ALPHABETS:
            automaton = closed_automaton(rng, alphabet, [2] * alphabet.places)
            for length in (17, 60, 200):
                expected = counted_by_paths(automaton, length, least_words(alphabet))
                self.assertEqual(accepted_count(alphabet, automaton, length), expected)

    def test_all_words_and_none(self):
        for alphabet in ALPHABETS:
            many = len(alphabet.letters)
            everything = Automaton(many, 0, [0, 1], [[1] * many, [0] * many])
            nothing = Automaton(many, 0, [], [[1] * many, [0] * many])
            for length in (0, 1, 2, 7, 100):
                self.assertEqual(accepted_count(alphabet, everything, length), word_count(alphabet, length))
                self.assertEqual(accepted_count(alphabet, nothing, length), 0)

    def test_an_automaton_that_is_not_least(self):
        # States 1 and 2 accept the same words, so the orders 0 1 and 1 0 lead to different states.
        automaton = Automaton(2, 0, [3, 4], [[1, 2], [5, 3], [4, 5], [5, 5], [5, 5], [5, 5]])
        self.assertEqual([accepted_count(FREE, automaton, length) for length in range(4)], [0, 0, 1, 0])

    def test_length_0(self):
        for alphabet in ALPHABETS:
            many = len(alphabet.letters)
            self.assertEqual(word_count(alphabet, 0), 1)
            only = automaton_of_words(many, [()])
            self.assertEqual([accepted_count(alphabet, only, length) for length in (0, 1, 2)], [1, 0, 0])
            other = automaton_of_words(many, [(0,)])
            self.assertEqual([accepted_count(alphabet, other, length) for length in (0, 1, 2)], [0, 1, 0])

    def test_equivalent_words_count_as_one(self):
        automaton = all_orders_automaton(MIXED, [(0, 1, 3, 0)])
        self.assertGreater(len(orders(MIXED, (0, 1, 3, 0))), 3)
        self.assertEqual(accepted_count(MIXED, automaton, 4), 1)

    def test_sets_that_are_not_closed(self):
        for alphabet, word in ((FREE, (0, 1)), (SHARED, (2, 1, 0)), (CHAIN, (0, 2)), (RING, (3, 1))):
            for length in (0, 2, 3):
                with self.assertRaises(NotClosed):
                    accepted_count(alphabet, automaton_of_words(len(alphabet.letters), [word]), length)
