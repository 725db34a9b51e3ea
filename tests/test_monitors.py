import random
import unittest

from placewords.alphabets import Alphabet
from placewords.claims import truths
from placewords.monitors import Monitors

from tests.samples import ALPHABETS, CHAIN, RING, SHARED, happen, one_swap, orders, random_word
from tests.test_claims import drawn_claim, first_claims
from tests.test_news import all_alphabets


def expected_truths(alphabet, word, claim):
    """For each place whether the claim is true at its last event."""
    found = truths(alphabet, word, claim)
    rows = []
    for place in range(alphabet.places):
        own = [event for event, letter in enumerate(word) if place in alphabet.letters[letter]]
        rows.append(bool(own) and found[own[-1]])
    return rows


class MonitorsTest(unittest.TestCase):
    def told(self, monitors, states):
        return [monitors.truth(state) for state in states]

    def run_word(self, alphabet, claim, word):
        monitors = Monitors(alphabet, claim)
        states = list(monitors.start())
        for size in range(len(word) + 1):
            found = self.told(monitors, states)
            self.assertTrue(all(type(truth) is bool for truth in found))
            self.assertEqual(found, expected_truths(alphabet, word[:size], claim), (word[:size], claim))
            if size < len(word):
                happen(alphabet, monitors, states, word[size])

    def test_each_form(self):
        rng = random.Random(73)
        for alphabet in ALPHABETS:
            claims = list(first_claims(alphabet))
            for claim in rng.sample(claims, min(len(claims), 25)):
                self.run_word(alphabet, claim, random_word(rng, alphabet, 15))

    def test_drawn_claims_and_words(self):
        rng = random.Random(74)
        for alphabet in ALPHABETS + list(all_alphabets(rng, 25)):
            for _ in range(4):
                claim = drawn_claim(rng, alphabet, rng.randint(2, 15))
                self.run_word(alphabet, claim, random_word(rng, alphabet, 25))

    def test_known_through_others(self):
        # News of a place that come by different ways, also older ones later.
        rng = random.Random(75)
        for alphabet in (RING, CHAIN, Alphabet(4, [(0,), (0, 1), (1, 2), (2, 3), (3,), (0, 3)])):
            for place in range(alphabet.places):
                for letter in range(len(alphabet.letters)):
                    self.run_word(alphabet, ("known", place, ("letter", letter)), random_word(rng, alphabet, 40))

    def test_a_place_that_is_silent_for_long(self):
        rng = random.Random(76)
        for _ in range(5):
            word = (0, 1, 2, 3) + tuple(rng.choice([0, 1]) for _ in range(40)) + random_word(rng, RING, 10)
            self.run_word(RING, drawn_claim(rng, RING, 10), word)

    def test_places_that_meet_in_another_order(self):
        rng = random.Random(77)
        for alphabet in ALPHABETS:
            for _ in range(4):
                claim = drawn_claim(rng, alphabet, 8)
                monitors = Monitors(alphabet, claim)
                word = random_word(rng, alphabet, 25)
                other = word
                for _ in range(80):
                    other = rng.choice(list(one_swap(alphabet, other)) or [other])
                states = list(monitors.start())
                for letter in other:
                    happen(alphabet, monitors, states, letter)
                self.assertEqual(self.told(monitors, states), expected_truths(alphabet, word, claim))

    def test_all_orders_of_a_word(self):
        rng = random.Random(78)
        for alphabet in ALPHABETS:
            word = random_word(rng, alphabet, 7)
            monitors = Monitors(alphabet, drawn_claim(rng, alphabet, 6))
            ends = set()
            for order in orders(alphabet, word):
                states = list(monitors.start())
                for letter in order:
                    happen(alphabet, monitors, states, letter)
                ends.add(tuple(states))
            self.assertEqual(len(ends), 1)

    def test_nothing_has_happened_at_a_place(self):
        claims = [("not", ("letter", 0)), ("not", ("once", ("letter", 0))), ("not", ("known", 1, ("letter", 1)))]
        for claim in claims + [("chain", claims[0], claims[1]), ("both", claims[0], claims[2])]:
            monitors = Monitors(SHARED, claim)
            states = list(monitors.start())
            self.assertIs(type(monitors.start()), tuple)
            self.assertEqual(len(set(states)), 1)
            self.assertEqual(self.told(monitors, states), [False, False])
            happen(SHARED, monitors, states, 1)
            self.assertEqual(self.told(monitors, states), [False, truths(SHARED, (1,), claim)[0]])

    def check_state(self, state, parts):
        self.assertIs(type(state), tuple)
        self.assertLessEqual(len(state), 300 + 40 * parts)
        self.assertTrue(all(type(number) is int for number in state))
        self.assertTrue(0 <= min(state) and max(state) <= 9999)

    def test_local_states_stay_small(self):
        rng = random.Random(79)
        for alphabet in ALPHABETS:
            for parts in (1, 2, 40):
                claim = drawn_claim(rng, alphabet, parts)
                monitors = Monitors(alphabet, claim)
                states = list(monitors.start())
                for letter in random_word(rng, alphabet, 500):
                    for state in states:
                        self.check_state(state, parts)
                    happen(alphabet, monitors, states, letter)

    def test_forty_parts_and_many_letters(self):
        rng = random.Random(80)
        for alphabet in (SHARED, RING):
            claim = drawn_claim(rng, alphabet, 40)
            word = random_word(rng, alphabet, 400)
            monitors = Monitors(alphabet, claim)
            states = list(monitors.start())
            found = truths(alphabet, word, claim)
            for event, letter in enumerate(word):
                happen(alphabet, monitors, states, letter)
                for place in alphabet.letters[letter]:
                    self.assertIs(monitors.truth(states[place]), found[event])

    def test_equal_questions_get_equal_answers(self):
        rng = random.Random(81)
        claim = drawn_claim(rng, RING, 9)
        one, other = Monitors(RING, claim), Monitors(Alphabet(4, list(RING.letters)), claim)
        self.assertEqual(one.start(), other.start())
        first, second = list(one.start()), list(other.start())
        for letter in random_word(rng, RING, 50):
            states = tuple(first[place] for place in RING.letters[letter])
            self.assertEqual(one.meet(letter, states), one.meet(letter, states))
            self.assertEqual(one.meet(letter, states), other.meet(letter, states))
            happen(RING, one, first, letter)
            happen(RING, other, second, letter)
            self.assertEqual(first, second)

    def test_two_words_over_one_object(self):
        rng = random.Random(82)
        claim = drawn_claim(rng, RING, 9)
        monitors = Monitors(RING, claim)
        words = [random_word(rng, RING, 40), random_word(rng, RING, 40)]
        states = [list(monitors.start()), list(monitors.start())]
        for size in range(40):
            for word, own in zip(words, states):
                happen(RING, monitors, own, word[size])
            for word, own in zip(words, states):
                self.assertEqual(self.told(monitors, own), expected_truths(RING, word[:size + 1], claim))
