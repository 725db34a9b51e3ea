import random
import unittest

from placewords.alphabets import Alphabet
from placewords.automata import Automaton, accepts
from placewords.closure import closed_fault
from placewords.implied import implied_word
from placewords.sides import place_product

from tests.samples import (
    ALPHABETS, CHAIN, FREE, RING, SHARED, automaton_of_words, is_numbered_and_least, plain_queues, random_automaton,
    random_word, short_words,
)


def all_words(letters):
    return Automaton(letters, 0, [0], [[0] * letters])


def no_words(letters):
    return Automaton(letters, 0, [], [[0] * letters])


def only_empty(letters):
    return Automaton(letters, 0, [0], [[1] * letters, [1] * letters])


class SidesTest(unittest.TestCase):
    def check(self, alphabet, automata, words):
        found = place_product(alphabet, automata)
        self.assertEqual(found.letters, len(alphabet.letters))
        self.assertTrue(is_numbered_and_least(found))
        self.assertIsNone(closed_fault(alphabet, found))
        for word in words:
            rows = plain_queues(alphabet, word)
            expected = all(accepts(automaton, row) for automaton, row in zip(automata, rows))
            self.assertIs(accepts(found, word), expected, (alphabet.letters, word))
        return found

    def test_drawn_automata(self):
        rng = random.Random(109)
        for alphabet in ALPHABETS + [Alphabet(3, [(0,), (1,), (0, 1), (2,), (1, 2)])]:
            words = short_words(alphabet) + [random_word(rng, alphabet, 15) for _ in range(40)]
            for _ in range(4):
                automata = [
                    random_automaton(rng, len(alphabet.letters), rng.randint(1, 4)) for _ in range(alphabet.places)
                ]
                found = self.check(alphabet, automata, words)
                self.assertIsNone(implied_word(alphabet, found) if len(found.rows) < 30 else None)

    def test_nothing_all_and_the_empty_word(self):
        rng = random.Random(110)
        for alphabet in ALPHABETS:
            letters, places = len(alphabet.letters), alphabet.places
            words = short_words(alphabet, 200)
            kinds = [no_words(letters), all_words(letters), only_empty(letters)]
            for kind in kinds:
                self.check(alphabet, [kind] * places, words)
            for _ in range(10):
                self.check(alphabet, [rng.choice(kinds + [random_automaton(rng, letters, 3)]) for _ in range(places)],
                           words)
            found = place_product(alphabet, [all_words(letters)] * places)
            self.assertEqual((found.finals, found.rows), ((0,), ((0,) * letters,)))
            found = place_product(alphabet, [all_words(letters)] * (places - 1) + [no_words(letters)])
            self.assertEqual((found.finals, found.rows), ((), ((0,) * letters,)))
            found = place_product(alphabet, [only_empty(letters)] * places)
            self.assertEqual((found.finals, found.rows), ((0,), ((1,) * letters, (1,) * letters)))

    def test_letters_that_the_place_does_not_have(self):
        # What an automaton does with letters of other places does not matter.
        one = Automaton(3, 0, [1], [[1, 2, 2], [1, 2, 2], [2, 2, 2]])
        found = self.check(SHARED, [one, all_words(3)], short_words(SHARED))
        self.assertTrue(accepts(found, (1, 0, 1, 0)))
        self.assertFalse(accepts(found, (0, 2)))
        only_others = automaton_of_words(3, [(1,), (1, 1), (0, 1)])
        found = place_product(SHARED, [only_others, all_words(3)])
        self.assertEqual((found.finals, found.rows), ((), ((0, 0, 0),)))

    def test_a_place_without_letters(self):
        alphabet = Alphabet(3, [(0,), (2,)])
        words = short_words(alphabet)
        self.check(alphabet, [all_words(2), only_empty(2), all_words(2)], words)
        found = self.check(alphabet, [all_words(2), automaton_of_words(2, [(0,)]), all_words(2)], words)
        self.assertEqual(found.finals, ())

    def test_sets_of_one_place_meet_at_shared_letters(self):
        first, second = automaton_of_words(3, [(0, 2), (2, 0)]), automaton_of_words(3, [(2, 1), (1, 1)])
        found = self.check(SHARED, [first, second], short_words(SHARED))
        accepted = [word for word in short_words(SHARED) if accepts(found, word)]
        self.assertEqual(accepted, [(0, 2, 1), (2, 0, 1), (2, 1, 0)])

    def test_many_states(self):
        rng = random.Random(111)
        counters = [
            Automaton(4, 0, [0, 1], [[(state + 1) % 7] * 4 for state in range(7)]) for _ in range(4)
        ]
        found = place_product(RING, counters)
        for _ in range(100):
            word = random_word(rng, RING, 60)
            expected = all(len(row) % 7 in (0, 1) for row in plain_queues(RING, word))
            self.assertIs(accepts(found, word), expected)

    def test_arguments_stay_as_they_are(self):
        automata = [all_words(3), only_empty(3), all_words(3)]
        kept = list(automata)
        first = place_product(CHAIN, automata)
        self.assertEqual(automata, kept)
        second = place_product(CHAIN, tuple(automata))
        self.assertEqual((first.finals, first.rows), (second.finals, second.rows))
        self.assertTrue(accepts(place_product(FREE, [all_words(2), only_empty(2)]), (0, 0)))
