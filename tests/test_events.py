import random
import unittest

from placewords.alphabets import Alphabet
from placewords.events import is_below, newest, view

from tests.samples import ALPHABETS, CHAIN, SHARED, below_pairs, newest_of, past, random_word, short_words


class EventsTest(unittest.TestCase):
    def words(self, alphabet):
        rng = random.Random(8)
        return rng.sample(short_words(alphabet), 5) + [random_word(rng, alphabet, size) for size in (7, 12, 25)]

    def test_the_example(self):
        alphabet = Alphabet(3, [(0, 1), (1, 2), (2,)])
        self.assertEqual(view(alphabet, (0, 2, 1, 0), 2), [0, 1, 2])
        self.assertEqual(newest(alphabet, (0, 2, 1, 0), 2), (0, 2, 2))

    def test_is_below(self):
        for alphabet in ALPHABETS:
            for word in self.words(alphabet):
                below = below_pairs(alphabet, word)
                for i in range(len(word)):
                    for j in range(len(word)):
                        self.assertIs(is_below(alphabet, word, i, j), (i, j) in below)

    def test_an_event_is_below_itself(self):
        self.assertIs(is_below(SHARED, [0, 1], 1, 1), True)
        self.assertIs(is_below(SHARED, [0, 1], 0, 1), False)

    def test_a_row_of_events(self):
        self.assertIs(is_below(CHAIN, (0, 1, 2), 0, 2), True)
        self.assertIs(is_below(CHAIN, (0, 2), 0, 1), False)
        self.assertIs(is_below(CHAIN, (0, 1, 2), 2, 0), False)

    def test_view_and_newest(self):
        for alphabet in ALPHABETS:
            for word in self.words(alphabet):
                for place in range(alphabet.places):
                    events = past(alphabet, word, place)
                    self.assertEqual(view(alphabet, word, place), sorted(events))
                    self.assertEqual(view(alphabet, list(word), place), sorted(events))
                    expected = tuple(
                        newest_of(alphabet, word, events, other) for other in range(alphabet.places)
                    )
                    self.assertEqual(newest(alphabet, word, place), expected)

    def test_a_place_at_which_nothing_happens(self):
        self.assertEqual(view(CHAIN, (2, 2), 0), [])
        self.assertEqual(newest(CHAIN, (2, 2), 0), (-1, -1, -1))
        self.assertEqual(newest(CHAIN, [0], 1), (0, 0, -1))
        self.assertEqual(newest(CHAIN, [0, 2], 2), (-1, -1, 1))
        self.assertEqual(newest(CHAIN, [], 2), (-1, -1, -1))

    def test_a_new_list_each_time(self):
        view(CHAIN, (0,), 0).append(9)
        self.assertEqual(view(CHAIN, (0,), 0), [0])
