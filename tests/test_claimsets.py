import random
import unittest

from placewords.alphabets import Alphabet
from placewords.automata import accepts
from placewords.claims import truths
from placewords.claimsets import claim_automaton
from placewords.closure import closed_fault

from tests.samples import (
    ALPHABETS, CHAIN, FREE, RING, SHARED, is_numbered_and_least, random_word, short_words,
)
from tests.test_claims import drawn_claim, first_claims

TRIANGLE = Alphabet(3, [(0, 1), (1, 2), (0, 2)])
FULL = Alphabet(3, [(0,), (1,), (2,), (0, 1), (1, 2), (0, 2)])
LONELY = Alphabet(3, [(0,), (0, 2), (2,)])
SMALL = [alphabet for alphabet in ALPHABETS if alphabet.places < 4] + [TRIANGLE, FULL, LONELY]
ANYTHING = ("not", ("both", ("letter", 0), ("not", ("letter", 0))))


def expected(alphabet, word, claim, place):
    found = truths(alphabet, word, claim)
    own = [event for event, letter in enumerate(word) if place in alphabet.letters[letter]]
    return bool(own) and found[own[-1]]


class ClaimSetsTest(unittest.TestCase):
    def check(self, rng, alphabet, claim, most=150):
        words = short_words(alphabet, most) + [random_word(rng, alphabet, rng.randint(4, 20)) for _ in range(25)]
        for place in range(alphabet.places):
            found = claim_automaton(alphabet, claim, place)
            self.assertEqual(found.letters, len(alphabet.letters))
            self.assertIsNone(closed_fault(alphabet, found))
            if len(found.rows) < 40:
                self.assertTrue(is_numbered_and_least(found))
            for word in words:
                self.assertIs(accepts(found, word), expected(alphabet, word, claim, place), (claim, place, word))

    def test_the_example(self):
        alphabet = Alphabet(1, [(0,), (0,)])
        self.assertEqual(claim_automaton(alphabet, ("once", ("letter", 1)), 0).rows, ((0, 1), (1, 1)))

    def test_each_form(self):
        rng = random.Random(116)
        for alphabet in SMALL:
            claims = list(first_claims(alphabet))
            for claim in rng.sample(claims, min(len(claims), 20)):
                self.check(rng, alphabet, claim, 80)

    def test_drawn_claims(self):
        rng = random.Random(117)
        for alphabet in SMALL:
            for _ in range(12):
                self.check(rng, alphabet, drawn_claim(rng, alphabet, rng.randint(2, 6)))

    def test_news_by_different_ways(self):
        # Claims about what is known of others, where the same place is heard of by several ways.
        rng = random.Random(118)
        for alphabet in (TRIANGLE, FULL, CHAIN):
            for claim in (
                ("known", 0, ("known", 1, ("known", 2, ("letter", 1)))),
                ("known", 2, ("known", 1, ("known", 0, ("known", 2, ("not", ("letter", 0)))))),
                ("both", ("known", 0, ("letter", 0)), ("not", ("known", 1, ("letter", 1)))),
                ("chain", ("known", 1, ("letter", 0)), ("known", 2, ("letter", 2))),
                ("known", 1, ("once", ("known", 2, ("letter", 0)))),
                ("known", 0, ("chain", ("not", ("letter", 1)), ("letter", 0))),
                ("not", ("known", 0, ("once", ("letter", 1)))),
            ):
                self.check(rng, alphabet, claim, 400)

    def test_nothing_has_happened_at_the_place(self):
        found = claim_automaton(FREE, ANYTHING, 0)
        self.assertEqual((found.finals, found.rows), ((1,), ((1, 0), (1, 1))))
        found = claim_automaton(FREE, ("not", ANYTHING), 0)
        self.assertEqual((found.finals, found.rows), ((), ((0, 0),)))

    def test_letters_of_other_places_change_nothing(self):
        found = claim_automaton(SHARED, ("letter", 0), 0)
        self.assertEqual((found.finals, found.rows), ((1,), ((1, 0, 0), (1, 1, 0))))
        # A claim about a letter of another place is never true at the place itself.
        found = claim_automaton(FREE, ("letter", 1), 0)
        self.assertEqual((found.finals, found.rows), ((), ((0, 0),)))
        self.assertFalse(accepts(claim_automaton(SHARED, ("once", ("letter", 1)), 0), (1, 0)))
        self.assertTrue(accepts(claim_automaton(SHARED, ("once", ("letter", 1)), 0), (1, 2, 0)))

    def test_a_place_with_no_letter(self):
        rng = random.Random(119)
        for claim in (ANYTHING, ("known", 1, ("letter", 0)), ("not", ("once", ("letter", 2)))):
            found = claim_automaton(LONELY, claim, 1)
            self.assertEqual((found.finals, found.rows), ((), ((0, 0, 0),)))
            self.check(rng, LONELY, claim)

    def test_somewhat_beyond_the_limits(self):
        rng = random.Random(120)
        for alphabet in (RING, Alphabet(4, [(0, 1), (1, 2), (2, 3), (0, 3), (0,), (2,)])):
            for _ in range(3):
                self.check(rng, alphabet, drawn_claim(rng, alphabet, 5), 60)
        self.check(rng, SHARED, drawn_claim(rng, SHARED, 9))
