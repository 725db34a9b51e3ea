import random
import unittest

from placewords.alphabets import Alphabet
from placewords.automata import Automaton, accepts
from placewords.implied import implied_word, place_set
from placewords.mixtures import mixture

from tests.samples import (
    ALPHABETS, CHAIN, FREE, MIXED, RING, SHARED, accepted, all_orders_automaton, automaton_of_words, closed_automaton,
    is_numbered_and_least, random_automaton, random_word, words_up_to,
)


def at(alphabet, word, place):
    return tuple(letter for letter in word if place in alphabet.letters[letter])


def drawn_words(rng, alphabet, many, length):
    return [random_word(rng, alphabet, rng.randint(0, length)) for _ in range(many)]


def product_of_places(rng, alphabet):
    """An automaton of all words whose word of each place is accepted by a drawn automaton of it."""
    letters = len(alphabet.letters)
    whole = None
    for place in range(alphabet.places):
        one = random_automaton(rng, letters, 2)
        rows = [
            [target if place in alphabet.letters[letter] else state for letter, target in enumerate(row)]
            for state, row in enumerate(one.rows)
        ]
        one = Automaton(letters, one.start, one.finals or [0], rows)
        whole = one if whole is None else mixture("and", whole, one)
    return whole


class ImpliedTest(unittest.TestCase):
    def test_the_example(self):
        none_or_both = Automaton(2, 0, [0, 3], [[1, 2], [4, 3], [3, 4], [4, 4], [4, 4]])
        self.assertEqual(implied_word(Alphabet(2, [(0,), (1,)]), none_or_both), (0,))

    def test_place_sets_of_finite_sets(self):
        # Sets of few words, most of them not closed: their place sets can be listed.
        rng = random.Random(53)
        for alphabet in ALPHABETS:
            letters = len(alphabet.letters)
            for many in (0, 1, 2, 4):
                words = drawn_words(rng, alphabet, many, 5)
                automaton = automaton_of_words(letters, words)
                for place in range(alphabet.places):
                    found = place_set(alphabet, automaton, place)
                    self.assertEqual(found.letters, letters)
                    self.assertTrue(is_numbered_and_least(found))
                    expected = {at(alphabet, word, place) for word in words}
                    length = 6 if letters < 4 else 5 if letters == 4 else 4
                    short = {word for word in expected if len(word) <= length}
                    self.assertEqual(accepted(found, length), short)
                    for word in expected:
                        self.assertTrue(accepts(found, word))

    def test_place_sets_of_drawn_sets(self):
        rng = random.Random(54)
        for alphabet in (FREE, SHARED, CHAIN):
            letters = len(alphabet.letters)
            for _ in range(15):
                # Two states and a word of three letters: four more letters elsewhere tell enough.
                automaton = random_automaton(rng, letters, 2)
                words = accepted(automaton, 9 if letters == 2 else 8)
                for place in range(alphabet.places):
                    found = place_set(alphabet, automaton, place)
                    self.assertTrue(is_numbered_and_least(found))
                    expected = {at(alphabet, word, place) for word in words}
                    self.assertEqual(accepted(found, 3), {word for word in expected if len(word) <= 3})

    def test_place_sets_of_large_sets(self):
        # The states behind all words with a word of the place are followed in the test itself.
        rng = random.Random(68)
        for alphabet in (CHAIN, RING, MIXED):
            sizes = [2, 2, 3, 3][:alphabet.places]
            automaton = closed_automaton(rng, alphabet, sizes)
            automaton = Automaton(automaton.letters, 0, rng.sample(automaton.finals, 1), automaton.rows)
            for place in range(alphabet.places):
                found = place_set(alphabet, automaton, place)
                self.assertTrue(is_numbered_and_least(found) or len(found.rows) > 60)
                own = [letter for letter, places in enumerate(alphabet.letters) if place in places]
                for _ in range(150):
                    word = [rng.choice(own) for _ in range(rng.randint(0, 9))]
                    states = self.with_silent(alphabet, automaton, place, {0})
                    for letter in word:
                        states = {automaton.rows[state][letter] for state in states}
                        states = self.with_silent(alphabet, automaton, place, states)
                    self.assertIs(accepts(found, word), any(state in automaton.finals for state in states))

    def with_silent(self, alphabet, automaton, place, states):
        """All states behind letters that do not happen at the place."""
        while True:
            more = {
                automaton.rows[state][letter] for state in states for letter, places in enumerate(alphabet.letters)
                if place not in places
            } | states
            if more == states:
                return states
            states = more

    def test_letters_of_other_places_are_never_accepted(self):
        everything = Automaton(3, 0, [0], [[0, 0, 0]])
        for place, other in ((0, 1), (1, 0)):
            found = place_set(SHARED, everything, place)
            for word in words_up_to(3, 4):
                self.assertIs(accepts(found, word), other not in word)

    def test_a_place_without_letters(self):
        alphabet = Alphabet(2, [(0,), (0,)])
        found = place_set(alphabet, automaton_of_words(2, [(0, 1)]), 1)
        self.assertEqual(accepted(found, 4), {()})
        self.assertIsNone(implied_word(alphabet, automaton_of_words(2, [(0, 1)])))

    def test_the_empty_set(self):
        for alphabet in ALPHABETS:
            letters = len(alphabet.letters)
            nothing = Automaton(letters, 0, [], [[1] * letters, [0] * letters])
            self.assertIsNone(implied_word(alphabet, nothing))
            for place in range(alphabet.places):
                found = place_set(alphabet, nothing, place)
                self.assertEqual((found.start, found.finals, found.rows), (0, (), ((0,) * letters,)))

    def check_implied(self, alphabet, automaton, length):
        """Held against all words up to some length."""
        sets = [place_set(alphabet, automaton, place) for place in range(alphabet.places)]
        expected = None
        for word in words_up_to(automaton.letters, length):
            implied = all(accepts(one, at(alphabet, word, place)) for place, one in enumerate(sets))
            if accepts(automaton, word):
                self.assertTrue(implied)
            elif implied:
                expected = word
                break
        found = implied_word(alphabet, automaton)
        if expected is not None or found is not None and len(found) <= length:
            self.assertEqual(found, expected)
            self.assertIs(type(found), tuple)
        return found

    def lengths(self, alphabet):
        return {1: 8, 2: 8, 3: 6, 4: 5, 6: 4}[len(alphabet.letters)]

    def test_sets_that_are_products_of_places(self):
        rng = random.Random(55)
        for alphabet in ALPHABETS:
            for _ in range(8):
                self.assertIsNone(self.check_implied(alphabet, product_of_places(rng, alphabet), 4))
            letters = len(alphabet.letters)
            self.assertIsNone(implied_word(alphabet, Automaton(letters, 0, [0], [[0] * letters])))
            self.assertIsNone(implied_word(alphabet, automaton_of_words(letters, [()])))
            word = random_word(rng, alphabet, 5)
            self.assertIsNone(implied_word(alphabet, all_orders_automaton(alphabet, [word])))

    def test_closed_sets(self):
        rng = random.Random(56)
        kinds = {True: 0, False: 0}
        for alphabet in ALPHABETS:
            for _ in range(15):
                automaton = closed_automaton(rng, alphabet, [rng.randint(1, 2) for _ in range(alphabet.places)])
                found = self.check_implied(alphabet, automaton, self.lengths(alphabet))
                kinds[found is None] += 1
                words = drawn_words(rng, alphabet, 2, 4)
                self.check_implied(alphabet, all_orders_automaton(alphabet, words), self.lengths(alphabet))
        self.assertGreater(min(kinds.values()), 5)

    def test_sets_that_are_not_closed(self):
        rng = random.Random(57)
        for alphabet in ALPHABETS:
            for _ in range(6):
                automaton = random_automaton(rng, len(alphabet.letters), rng.randint(1, 4))
                self.check_implied(alphabet, automaton, self.lengths(alphabet))
        self.assertEqual(implied_word(FREE, automaton_of_words(2, [(0, 1)])), (1, 0))
        self.assertEqual(implied_word(FREE, automaton_of_words(2, [(1, 0)])), (0, 1))
        self.assertEqual(implied_word(SHARED, automaton_of_words(3, [(2, 0, 1), (2, 1, 0)])), None)

    def test_the_least_of_several_words(self):
        # Both 0 0 and 1 1, but not 0 1 and 1 0 at the two places apart.
        words = [(0, 0), (1, 1, 1)]
        self.assertEqual(implied_word(FREE, all_orders_automaton(FREE, words)), ())
        words = [(), (0, 0), (1, 1)]
        self.assertEqual(implied_word(FREE, all_orders_automaton(FREE, words)), (0, 0, 1, 1))

    def test_a_word_that_meets_around_the_ring(self):
        words = [(0, 1), (1, 2), (2, 3), (0, 3)]
        automaton = all_orders_automaton(RING, words)
        self.assertEqual(self.check_implied(RING, automaton, 5), ())
