import random
import unittest

from placewords.alphabets import Alphabet
from placewords.automata import Automaton, accepts, least
from placewords.closure import closed_fault
from placewords.finite import finite_automaton
from placewords.forms import is_least
from placewords.learners import Learner
from placewords.mixtures import difference
from placewords.sides import place_product

from tests.samples import (
    ALPHABETS, APART, CHAIN, FREE, MIXED, RING, SHARED, SINGLE, all_orders_automaton, closed_automaton, orders,
    random_automaton, random_word,
)


def nothing(letters):
    return Automaton(letters, 0, [], [[0] * letters])


def everything(letters):
    return Automaton(letters, 0, [0], [[0] * letters])


def only_empty(letters):
    return Automaton(letters, 0, [0], [[1] * letters, [1] * letters])


def counter(letters, letter, many, finals):
    """How often the letter is there, counted up to many - 1 and then again from 0."""
    return Automaton(letters, 0, finals, [
        [(state + 1) % many if other == letter else state for other in range(letters)] for state in range(many)
    ])


def shortest(rng, alphabet, guess, target):
    return difference(guess, target)


def long_word(rng, alphabet, guess, target):
    """A drawn word, often a long one and not a least one, or the shortest if there is no other."""
    for _ in range(30):
        word = random_word(rng, alphabet, rng.choice([20, 60]))
        if accepts(guess, word) != accepts(target, word):
            return list(word)
    word = difference(guess, target)
    return None if word is None else rng.choice(sorted(orders(alphabet, word)))


class LearnerTest(unittest.TestCase):
    def ask(self, alphabet, learner, asked, target):
        """Answer all questions until there is a guess."""
        while learner.question() is not None:
            word = learner.question()
            self.assertIs(type(word), tuple)
            self.assertEqual(learner.question(), word)
            self.assertTrue(is_least(alphabet, word), word)
            self.assertNotIn(word, asked)
            asked[word] = accepts(target, word)
            self.assertIsNone(learner.answer(asked[word]))
        self.assertIsNone(learner.question())

    def learn(self, rng, alphabet, target, choose):
        learner = Learner(alphabet)
        asked, corrections = {}, {}
        while True:
            self.ask(alphabet, learner, asked, target)
            guess = learner.guess()
            self.assertIs(type(guess), Automaton)
            self.assertEqual(guess.letters, len(alphabet.letters))
            self.assertIsNone(closed_fault(alphabet, guess))
            for word, inside in [*asked.items(), *corrections.items()]:
                self.assertIs(accepts(guess, word), inside, word)
            again = learner.guess()
            self.assertEqual((guess.start, guess.finals, guess.rows), (again.start, again.finals, again.rows))
            word = choose(rng, alphabet, guess, target)
            if word is None:
                self.assertIsNone(difference(guess, target))
                return len(corrections)
            corrections[tuple(word)] = accepts(target, word)
            self.assertLess(len(corrections), len(least(target).rows))
            self.assertIsNone(learner.correct(word))

    def check(self, rng, alphabet, target):
        self.assertIsNone(closed_fault(alphabet, target))
        for choose in (shortest, long_word):
            self.learn(rng, alphabet, target, choose)

    def test_nothing_all_words_and_the_empty_word(self):
        rng = random.Random(160)
        for alphabet in ALPHABETS:
            letters = len(alphabet.letters)
            for target in (nothing(letters), everything(letters), only_empty(letters)):
                self.check(rng, alphabet, target)

    def test_sets_that_are_found_without_a_correction(self):
        rng = random.Random(161)
        for alphabet in ALPHABETS:
            letters = len(alphabet.letters)
            for target in (nothing(letters), everything(letters)):
                self.assertEqual(self.learn(rng, alphabet, target, shortest), 0)

    def test_sets_of_counters(self):
        rng = random.Random(162)
        for alphabet in ALPHABETS:
            letters = len(alphabet.letters)
            for many in (2, 3, 7):
                letter = rng.randrange(letters)
                self.check(rng, alphabet, counter(letters, letter, many, [rng.randrange(many)]))
                self.check(rng, alphabet, counter(letters, letter, many, list(range(many - 1))))

    def test_sets_of_places(self):
        rng = random.Random(163)
        for alphabet in ALPHABETS:
            for _ in range(4):
                automata = [random_automaton(rng, len(alphabet.letters), rng.randint(1, 3))
                            for _ in range(alphabet.places)]
                self.check(rng, alphabet, place_product(alphabet, automata))

    def test_sets_of_several_places(self):
        rng = random.Random(164)
        for alphabet in ALPHABETS:
            for _ in range(4):
                sizes = [rng.randint(1, 2 if alphabet.places == 4 else 3) for _ in range(alphabet.places)]
                self.check(rng, alphabet, closed_automaton(rng, alphabet, sizes))

    def test_finite_sets(self):
        rng = random.Random(165)
        for alphabet in (FREE, SHARED, CHAIN, RING, SINGLE):
            for many in (1, 3):
                words = [random_word(rng, alphabet, rng.randint(1, 6)) for _ in range(many)]
                self.check(rng, alphabet, finite_automaton(alphabet, words))
        # One word alone, which is far away from all that is asked at first.
        self.check(rng, SINGLE, all_orders_automaton(SINGLE, [(0,) * 15]))
        self.check(rng, APART, finite_automaton(APART, [(0, 1, 2, 3, 0, 1)]))

    def test_the_first_question(self):
        learner = Learner(SHARED)
        self.assertEqual([learner.question(), learner.question()], [(), ()])
        learner.answer(True)
        second = learner.question()
        self.assertEqual(len(second), 1)
        self.assertEqual(learner.question(), second)

    def test_what_a_guess_says_of_other_orders(self):
        # Only least words are asked; the guess says the same of all their orders.
        target = counter(2, 1, 3, [2])
        learner, asked = Learner(FREE), {}
        self.ask(FREE, learner, asked, target)
        while (word := difference(learner.guess(), target)) is not None:
            learner.correct(word)
            self.ask(FREE, learner, asked, target)
        guess = learner.guess()
        for word, inside in asked.items():
            for order in orders(FREE, word):
                self.assertIs(accepts(guess, order), inside)

    def test_very_long_corrections(self):
        rng = random.Random(166)

        def far(rng, alphabet, guess, target):
            word = difference(guess, target)
            for _ in range(20):
                other = random_word(rng, alphabet, 700)
                if accepts(guess, other) != accepts(target, other):
                    return other
            return word

        for alphabet in (SHARED, RING):
            target = closed_automaton(rng, alphabet, [2] * alphabet.places)
            self.learn(rng, alphabet, target, far)
            self.learn(rng, alphabet, counter(len(alphabet.letters), 0, 5, [3]), far)

    def test_many_states(self):
        rng = random.Random(167)
        for alphabet in (CHAIN, MIXED):
            target = closed_automaton(rng, alphabet, [4, 3, 3] if alphabet is CHAIN else [2, 3, 2, 3])
            self.learn(rng, alphabet, target, shortest)
        self.learn(rng, SINGLE, Automaton(1, 0, [49], [[(state + 1) % 50] for state in range(50)]), shortest)

    def test_two_learners(self):
        # What one learner is told is nothing to the other one.
        one, other = Learner(SHARED), Learner(SHARED)
        asked = {}
        self.ask(SHARED, one, asked, everything(3))
        self.assertEqual(other.question(), ())
        self.ask(SHARED, other, {}, nothing(3))
        self.assertTrue(accepts(one.guess(), (0, 1)))
        self.assertFalse(accepts(other.guess(), (0, 1)))

    def test_equal_answers_lead_to_equal_questions(self):
        rng = random.Random(168)
        target = closed_automaton(rng, CHAIN, [2, 2, 2])
        first, second = Learner(CHAIN), Learner(Alphabet(3, list(CHAIN.letters)))
        for _ in range(200):
            self.assertEqual(first.question(), second.question())
            if first.question() is None:
                word = difference(first.guess(), target)
                self.assertEqual(word, difference(second.guess(), target))
                if word is None:
                    break
                first.correct(word)
                second.correct(list(word))
            else:
                inside = accepts(target, first.question())
                first.answer(inside)
                second.answer(inside)
