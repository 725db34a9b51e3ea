import itertools
import random
import unittest

from placewords.alphabets import Alphabet
from placewords.automata import Automaton, accepts
from placewords.closure import closed_fault
from placewords.errors import NotClosed, NotConnected
from placewords.mixtures import difference, mixture
from placewords.products import product, repetition, unconnected_word

from tests.samples import (
    ALPHABETS, CHAIN, FREE, RING, SHARED, all_orders_automaton, apart, automaton_of_words, closed_automaton,
    is_numbered_and_least, orders, random_word, short_words,
)


def nothing(letters):
    return Automaton(letters, 0, [], [[0] * letters])


def empty_word(letters):
    return Automaton(letters, 0, [0], [[1] * letters, [1] * letters])


def everything(letters):
    return Automaton(letters, 0, [0], [[0] * letters])


def is_connected_word(alphabet, word):
    letters = sorted(set(word))
    for size in range(1, len(letters)):
        for part in itertools.combinations(letters, size):
            if all(apart(alphabet, a, b) for a in part for b in letters if b not in part):
                return False
    return True


def in_product(alphabet, first, second, word):
    return any(
        accepts(first, order[:size]) and accepts(second, order[size:])
        for order in orders(alphabet, word) for size in range(len(word) + 1)
    )


def in_repetition(alphabet, automaton, word, known):
    least = min(orders(alphabet, word))
    if least not in known:
        known[least] = word == () or any(
            accepts(automaton, order[:size]) and in_repetition(alphabet, automaton, order[size:], known)
            for order in orders(alphabet, word) for size in range(1, len(word) + 1)
        )
    return known[least]


def sets(rng, alphabet):
    """Some closed sets: of few words, of what the places do, and mixtures of them."""
    words = [random_word(rng, alphabet, rng.randint(0, 4)) for _ in range(rng.randint(1, 3))]
    few = all_orders_automaton(alphabet, words)
    counted = closed_automaton(rng, alphabet, [rng.choice([1, 1, 2]) for _ in range(alphabet.places)])
    return [few, counted, mixture("or", few, counted), mixture("minus", counted, few)]


class ProductTest(unittest.TestCase):
    def test_against_all_cuts(self):
        rng = random.Random(16)
        for alphabet in ALPHABETS:
            words = [word for word in short_words(alphabet, 300) if len(word) <= 6]
            for _ in range(3):
                first, second = rng.choice(sets(rng, alphabet)), rng.choice(sets(rng, alphabet))
                found = product(alphabet, first, second)
                self.assertTrue(is_numbered_and_least(found))
                self.assertIsNone(closed_fault(alphabet, found))
                for word in words:
                    self.assertIs(accepts(found, word), in_product(alphabet, first, second, word))

    def test_the_empty_set_and_the_empty_word(self):
        rng = random.Random(17)
        for alphabet in ALPHABETS:
            many = len(alphabet.letters)
            for one in sets(rng, alphabet):
                self.assertIsNone(difference(product(alphabet, one, nothing(many)), nothing(many)))
                self.assertIsNone(difference(product(alphabet, nothing(many), one), nothing(many)))
                self.assertIsNone(difference(product(alphabet, one, empty_word(many)), one))
                self.assertIsNone(difference(product(alphabet, empty_word(many), one), one))

    def test_the_letters_of_both_words_mix(self):
        both = product(FREE, automaton_of_words(2, [(0, 0)]), automaton_of_words(2, [(1,)]))
        self.assertIsNone(difference(both, automaton_of_words(2, [(0, 0, 1), (0, 1, 0), (1, 0, 0)])))
        both = product(SHARED, automaton_of_words(3, [(0,)]), automaton_of_words(3, [(2,)]))
        self.assertIsNone(difference(both, automaton_of_words(3, [(0, 2)])))

    def test_not_closed(self):
        closed = automaton_of_words(2, [(0,)])
        other = automaton_of_words(2, [(0, 1)])
        for first, second in ((closed, other), (other, closed), (other, other)):
            with self.assertRaises(NotClosed):
                product(FREE, first, second)

    def test_states_that_are_not_reached_do_not_count(self):
        # The states 1 and 2 alone would not be closed.
        automaton = Automaton(2, 0, [0], [[0, 0], [2, 1], [1, 1]])
        self.assertIsNone(difference(product(FREE, automaton, automaton), everything(2)))


class UnconnectedWordTest(unittest.TestCase):
    def test_the_example(self):
        self.assertEqual(unconnected_word(Alphabet(2, [(0,), (1,)]), Automaton(2, 0, [0], [[0, 0]])), (0, 1))

    def test_the_shortest_and_then_least(self):
        rng = random.Random(18)
        for alphabet in ALPHABETS:
            words = short_words(alphabet)
            for _ in range(3):
                for automaton in sets(rng, alphabet):
                    found = unconnected_word(alphabet, automaton)
                    bad = [w for w in words if accepts(automaton, w) and not is_connected_word(alphabet, w)]
                    if bad:
                        self.assertEqual(found, bad[0])
                    elif found is not None:
                        self.assertGreater(len(found), len(words[-1]))
                        self.assertFalse(is_connected_word(alphabet, found))
                        self.assertTrue(accepts(automaton, found))

    def test_none(self):
        self.assertIsNone(unconnected_word(FREE, automaton_of_words(2, [(), (0,), (1, 1)])))
        self.assertIsNone(unconnected_word(FREE, nothing(2)))
        self.assertIsNone(unconnected_word(CHAIN, automaton_of_words(3, [(0, 1, 2)])))
        self.assertEqual(unconnected_word(CHAIN, automaton_of_words(3, [(0, 1, 2), (2, 0)])), (2, 0))


class RepetitionTest(unittest.TestCase):
    def test_against_all_cuts(self):
        rng = random.Random(19)
        for alphabet in ALPHABETS:
            words = [word for word in short_words(alphabet, 300) if len(word) <= 6]
            for _ in range(6):
                connected = []
                while len(connected) < 3:
                    word = random_word(rng, alphabet, rng.randint(0, 5))
                    connected += [word] if is_connected_word(alphabet, word) else []
                automaton = all_orders_automaton(alphabet, connected)
                self.check(alphabet, automaton, words)

    def check(self, alphabet, automaton, words):
        found = repetition(alphabet, automaton)
        self.assertTrue(is_numbered_and_least(found))
        self.assertIsNone(closed_fault(alphabet, found))
        known = {}
        for word in words:
            self.assertIs(accepts(found, word), in_repetition(alphabet, automaton, word, known))

    def test_sets_without_end(self):
        # All words with letters 0 and 2 alone that are of even length, and those of 1 and 2.
        left = Automaton(3, 0, [0], [[1, 2, 1], [0, 2, 0], [2, 2, 2]])
        right = Automaton(3, 0, [1], [[2, 1, 1], [2, 1, 1], [2, 2, 2]])
        with_two = Automaton(3, 0, [1], [[0, 0, 1], [1, 1, 1]])
        words = short_words(SHARED, 4000)
        for automaton in (left, right):
            self.check(SHARED, mixture("and", automaton, with_two), [word for word in words if len(word) <= 6])

    def test_several_words_are_begun_at_once(self):
        automaton = all_orders_automaton(RING, [(0, 1, 3), (2, 1, 2), (3, 3, 2), (0,)])
        self.check(RING, automaton, [word for word in short_words(RING, 6000) if len(word) <= 6])

    def test_the_empty_set_and_the_empty_word(self):
        for alphabet in ALPHABETS:
            many = len(alphabet.letters)
            for automaton in (nothing(many), empty_word(many)):
                self.assertIsNone(difference(repetition(alphabet, automaton), empty_word(many)))

    def test_errors_and_their_order(self):
        with self.assertRaises(NotClosed):
            repetition(SHARED, automaton_of_words(3, [(0, 1, 2)]))
        with self.assertRaises(NotConnected):
            repetition(FREE, automaton_of_words(2, [(0, 1), (1, 0)]))
        with self.assertRaises(NotClosed):
            repetition(FREE, automaton_of_words(2, [(0, 1)]))
