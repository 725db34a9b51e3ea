import itertools
import random
import unittest

from placewords.alphabets import Alphabet
from placewords.cuts import avoiding_order, holds, is_cut, least_cut

from tests.samples import (
    ALPHABETS, APART, CHAIN, FREE, RING, SHARED, below_pairs, orders, random_word, short_words,
)


def plain_cuts(alphabet, word):
    """All sets of events that have with each event all events below it, as ascending lists."""
    below = below_pairs(alphabet, word)
    events = range(len(word))
    return [
        list(chosen) for size in range(len(word) + 1) for chosen in itertools.combinations(events, size)
        if all(i in chosen for i, j in below if j in chosen)
    ]


def plain_holds(alphabet, word, events, conditions):
    for place in range(alphabet.places):
        own = [word[event] for event in sorted(events) if place in alphabet.letters[word[event]]]
        if (own[-1] if own else -1) not in conditions[place]:
            return False
    return True


def passes(alphabet, order, conditions):
    """Whether an order passes a cut in which the conditions hold; the cuts are its beginnings."""
    return any(plain_holds(alphabet, order, range(size), conditions) for size in range(len(order) + 1))


def drawn_conditions(rng, alphabet, chance, nothing):
    """A list for each place of some of the letters, also of other places, and perhaps -1."""
    return [
        [letter for letter in rng.sample(range(-1, len(alphabet.letters)), len(alphabet.letters) + 1)
         if rng.random() < (nothing if letter < 0 else chance)]
        for _ in range(alphabet.places)
    ]


class CutsTest(unittest.TestCase):
    def test_the_example(self):
        alphabet = Alphabet(2, [(0,), (1,), (0, 1)])
        found = (
            least_cut(alphabet, (0, 1, 2), [[0], [-1]]), avoiding_order(alphabet, (0, 1, 2), [[0], [-1]])
        )
        self.assertEqual(found, ([0], (1, 0, 2)))

    def test_cuts(self):
        rng = random.Random(63)
        for alphabet in ALPHABETS:
            words = [random_word(rng, alphabet, 6) for _ in range(6)] + short_words(alphabet, 40)
            for word in words:
                cuts = plain_cuts(alphabet, word)
                for size in range(len(word) + 1):
                    for events in itertools.combinations(range(len(word)), size):
                        mixed = rng.sample(events, len(events))
                        self.assertIs(is_cut(alphabet, list(word), mixed), list(events) in cuts)

    def test_what_is_no_event_is_in_no_cut(self):
        for events in ([3], [-1], [0, -1], [0, 1, 2, 3], [5, 0]):
            self.assertIs(is_cut(SHARED, (0, 1, 2), events), False)
        self.assertIs(is_cut(SHARED, (), []), True)
        self.assertIs(is_cut(SHARED, (), [0]), False)

    def test_conditions(self):
        rng = random.Random(64)
        found = {True: 0, False: 0}
        for alphabet in ALPHABETS:
            for _ in range(6):
                word = random_word(rng, alphabet, 6)
                for events in plain_cuts(alphabet, word):
                    for _ in range(4):
                        conditions = drawn_conditions(rng, alphabet, 0.8, 0.8)
                        expected = plain_holds(alphabet, word, events, conditions)
                        mixed = rng.sample(events, len(events))
                        self.assertIs(holds(alphabet, list(word), mixed, conditions), expected)
                        found[expected] += 1
        self.assertGreater(min(found.values()), 100)

    def test_conditions_at_the_beginning(self):
        self.assertIs(holds(SHARED, (0, 1, 2), [], [[-1], [2, -1]]), True)
        self.assertIs(holds(SHARED, (0, 1, 2), [], [[0], [-1]]), False)
        self.assertIs(holds(SHARED, (0, 1, 2), [], [[], [-1]]), False)
        self.assertIs(holds(SHARED, (), [], [[-1], [-1]]), True)
        self.assertIs(holds(SHARED, (0, 1, 2), [0, 1, 2], [[2], [2]]), True)
        self.assertIs(holds(SHARED, (0, 1, 2), [0, 1, 2], [[0], [2]]), False)

    def check_least(self, alphabet, word, conditions):
        good = [cut for cut in plain_cuts(alphabet, word) if plain_holds(alphabet, word, cut, conditions)]
        found = least_cut(alphabet, word, conditions)
        if not good:
            self.assertIsNone(found)
            return None
        self.assertEqual(found, good[0])
        self.assertIs(type(found), list)
        for cut in good:
            self.assertLessEqual(set(found), set(cut))
        return found

    def test_least_cuts(self):
        rng = random.Random(65)
        sizes = {}
        for alphabet in ALPHABETS:
            for _ in range(80):
                word = random_word(rng, alphabet, rng.randint(0, 8))
                conditions = drawn_conditions(rng, alphabet, rng.choice([0.4, 0.7]), 0.4)
                found = self.check_least(alphabet, word, conditions)
                size = -1 if found is None else len(found)
                sizes[size] = sizes.get(size, 0) + 1
        self.assertGreater(min(sizes[size] for size in (-1, 0, 1, 2, 3)), 5)

    def test_no_least_cut(self):
        for conditions in ([[], [-1]], [[-1], []], [[], []], [[1], [-1]], [[0], [0]], [[5], [-1, 2]]):
            self.assertIsNone(least_cut(SHARED, (0, 1, 2), conditions))
        # Each place has its letter for a moment, but not at once.
        self.assertIsNone(least_cut(SHARED, (0, 2, 1), [[0], [1]]))
        self.assertIsNone(least_cut(SHARED, (), [[0], [-1]]))
        self.assertEqual(least_cut(SHARED, (), [[-1], [-1]]), [])

    def test_long_words(self):
        word = (0, 1) * 100 + (2,) + (0, 1) * 100
        self.assertEqual(least_cut(SHARED, word, [[2], [2]]), list(range(201)))
        self.assertEqual(least_cut(SHARED, word, [[2], [2, 1]]), list(range(201)))
        self.assertIsNone(least_cut(SHARED, word, [[2], [0]]))
        self.assertEqual(least_cut(RING, (0, 1, 2, 3) * 100, [[3], [1], [2], [3]]), [0, 1, 2, 3])

    def check_order(self, alphabet, word, conditions):
        left = [order for order in orders(alphabet, word) if not passes(alphabet, order, conditions)]
        found = avoiding_order(alphabet, list(word), conditions)
        self.assertEqual(found, min(left) if left else None)
        if found is not None:
            self.assertIs(type(found), tuple)
        return found

    def test_orders_that_avoid(self):
        rng = random.Random(66)
        kinds = {"certain": 0, "least": 0, "other": 0}
        for alphabet in ALPHABETS:
            for _ in range(200):
                word = random_word(rng, alphabet, rng.randint(0, 7))
                found = self.check_order(alphabet, word, drawn_conditions(rng, alphabet, rng.choice([0.3, 0.5]), 0.4))
                kind = "certain" if found is None else "least" if found == min(orders(alphabet, word)) else "other"
                kinds[kind] += 1
        self.assertGreater(min(kinds.values()), 10)

    def test_certain_conditions(self):
        # Each order begins with the empty cut and ends with all events.
        for word in ((), (0, 1, 2), (2, 2)):
            self.assertIsNone(avoiding_order(SHARED, word, [[-1], [-1]]))
        self.assertIsNone(avoiding_order(SHARED, (0, 1, 2), [[2], [2]]))
        # Letters 0 and 1 come ahead of letter 2 in every order.
        self.assertIsNone(avoiding_order(SHARED, (0, 1, 2), [[0], [1]]))
        self.assertEqual(avoiding_order(SHARED, (0, 2, 1), [[0], [1]]), (0, 2, 1))

    def test_the_empty_word(self):
        self.assertEqual(avoiding_order(SHARED, (), [[0], [-1]]), ())
        self.assertEqual(avoiding_order(SHARED, (), [[], []]), ())
        self.assertIsNone(avoiding_order(SHARED, (), [[-1, 0], [2, -1]]))

    def test_conditions_that_never_hold(self):
        for alphabet in ALPHABETS:
            word = random_word(random.Random(67), alphabet, 6)
            for conditions in ([[]] * alphabet.places, [[len(alphabet.letters)]] * alphabet.places):
                self.assertEqual(avoiding_order(alphabet, word, conditions), min(orders(alphabet, word)))
                self.assertIsNone(least_cut(alphabet, word, conditions))

    def test_twelve_letters_apart(self):
        conditions = [[0], [1], [2], [3]]
        self.assertIsNone(avoiding_order(APART, (0, 1, 2, 3) * 3, conditions))
        conditions = [[0], [-1], [2], [3]]
        self.assertEqual(avoiding_order(APART, (0, 1, 2, 3) * 3, conditions), (0,) * 3 + (1,) * 3 + (2,) * 3 + (3,) * 3)
        self.assertEqual(avoiding_order(FREE, (0, 1) * 6, [[0], [-1]]), (1,) + (0,) * 6 + (1,) * 5)

    def test_arguments_stay_as_they_are(self):
        word, events, conditions = [2, 0, 1, 1], [1, 0], [[0], [-1, 2]]
        is_cut(SHARED, word, events)
        holds(SHARED, word, events, conditions)
        least_cut(SHARED, word, conditions)
        avoiding_order(SHARED, word, conditions)
        self.assertEqual((word, events, conditions), ([2, 0, 1, 1], [1, 0], [[0], [-1, 2]]))
        self.assertIsNot(least_cut(CHAIN, (0,), [[0], [0], [-1]]), least_cut(CHAIN, (0,), [[0], [0], [-1]]))
