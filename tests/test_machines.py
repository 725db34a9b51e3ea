import random
import unittest

from placewords.alphabets import Alphabet
from placewords.automata import Automaton, accepts
from placewords.errors import NotClosed, TooLarge
from placewords.expressions import expression_automaton
from placewords.machines import Machines, run_apart

from tests.samples import (
    ALPHABETS, FREE, RING, SHARED, all_orders_automaton, automaton_of_words, closed_automaton, happen, one_swap, orders,
    random_word,
)
from tests.test_news import all_alphabets


def closed_sets(rng, alphabet):
    sizes = [rng.choice([1, 2, 2]) for _ in range(alphabet.places)]
    sizes[rng.randrange(alphabet.places)] = 3
    yield closed_automaton(rng, alphabet, sizes)
    yield all_orders_automaton(alphabet, [random_word(rng, alphabet, 3) for _ in range(2)])


class MachinesTest(unittest.TestCase):
    def test_drawn_words(self):
        rng = random.Random(32)
        for alphabet in ALPHABETS + list(all_alphabets(rng, 30)):
            for automaton in closed_sets(rng, alphabet):
                if len(automaton.rows) <= 40:
                    machines = Machines(alphabet, automaton)
                    self.run_word(alphabet, automaton, machines, random_word(rng, alphabet, 60))

    def run_word(self, alphabet, automaton, machines, word):
        states = list(machines.start())
        self.assertIs(machines.accepts(tuple(states)), accepts(automaton, ()))
        for size, letter in enumerate(word):
            happen(alphabet, machines, states, letter)
            self.assertIs(machines.accepts(tuple(states)), accepts(automaton, word[:size + 1]))
        self.assertEqual(run_apart(machines, alphabet, word), tuple(states))
        self.assertEqual(run_apart(machines, alphabet, list(word)), tuple(states))

    def test_places_that_meet_in_another_order(self):
        rng = random.Random(33)
        for alphabet in ALPHABETS:
            automaton = next(closed_sets(rng, alphabet))
            machines = Machines(alphabet, automaton)
            for _ in range(5):
                word = random_word(rng, alphabet, 30)
                other = word
                for _ in range(100):
                    other = rng.choice(list(one_swap(alphabet, other)) or [other])
                states = run_apart(machines, alphabet, other)
                self.assertIs(machines.accepts(states), accepts(automaton, word))
                self.assertEqual(states, run_apart(machines, alphabet, word))

    def test_all_orders_of_short_words(self):
        rng = random.Random(34)
        for alphabet in ALPHABETS:
            machines = Machines(alphabet, next(closed_sets(rng, alphabet)))
            word = random_word(rng, alphabet, 6)
            ends = {run_apart(machines, alphabet, order) for order in orders(alphabet, word)}
            self.assertEqual(len(ends), 1)

    def test_a_place_that_is_silent_for_long(self):
        rng = random.Random(35)
        for _ in range(10):
            automaton = closed_automaton(rng, RING, [2, 3, 2, 2])
            word = (0, 1, 2, 3) + tuple(rng.choice([0, 1]) for _ in range(60)) + random_word(rng, RING, 15)
            self.run_word(RING, automaton, Machines(RING, automaton), word)

    def test_a_set_of_an_expression(self):
        # Letter 2 at both places, with as many of 0 as of 1 by twos ahead of each.
        part = ("join", ("star", ("join", ("letter", 0), ("letter", 0))), ("letter", 2))
        automaton = expression_automaton(SHARED, ("star", part))
        machines = Machines(SHARED, automaton)
        for word in ((), (0,), (0, 0, 2), (0, 2), (2, 2, 0, 0, 0, 0, 2), (1, 2), (0, 1, 0, 2)):
            states = run_apart(machines, SHARED, word)
            self.assertIs(machines.accepts(states), accepts(automaton, word))

    def test_local_states_stay_small(self):
        rng = random.Random(36)
        for alphabet in ALPHABETS:
            for automaton in closed_sets(rng, alphabet):
                machines = Machines(alphabet, automaton)
                states = list(machines.start())
                for letter in random_word(rng, alphabet, 600):
                    for state in states:
                        self.assertIs(type(state), tuple)
                        self.assertLessEqual(len(state), 300 + 40 * len(automaton.rows))
                        self.assertTrue(all(type(number) is int for number in state))
                        self.assertTrue(0 <= min(state) and max(state) <= 9999)
                    happen(alphabet, machines, states, letter)

    def test_forty_states_and_one_more(self):
        for many in (40, 41):
            rows = [[(state + 1) % many] * 2 for state in range(many)]
            automaton = Automaton(2, 0, [0], rows)
            if many == 40:
                machines = Machines(FREE, automaton)
                word = (0, 1) * 20
                self.assertIs(machines.accepts(run_apart(machines, FREE, word)), True)
                self.assertIs(machines.accepts(run_apart(machines, FREE, word[1:])), False)
                self.assertLessEqual(len(machines.start()[0]), 300 + 40 * 40)
            else:
                with self.assertRaises(TooLarge):
                    Machines(FREE, automaton)

    def test_errors_and_their_order(self):
        with self.assertRaises(NotClosed):
            Machines(FREE, automaton_of_words(2, [(0, 1)]))
        with self.assertRaises(TooLarge):
            Machines(FREE, automaton_of_words(2, [(0, 1) + (0,) * 40]))
        # More states than 40 are too many, also if the least automaton has fewer.
        with self.assertRaises(TooLarge):
            Machines(FREE, Automaton(2, 0, [], [[0, 0]] * 41))
        Machines(FREE, Automaton(2, 0, [], [[0, 0]] * 40))

    def test_two_words_over_one_object(self):
        rng = random.Random(37)
        automaton = closed_automaton(rng, RING, [2, 2, 3, 2])
        machines = Machines(RING, automaton)
        first, second = random_word(rng, RING, 50), random_word(rng, RING, 50)
        ones, others = list(machines.start()), list(machines.start())
        for size in range(50):
            happen(RING, machines, ones, first[size])
            happen(RING, machines, others, second[size])
            self.assertIs(machines.accepts(tuple(ones)), accepts(automaton, first[:size + 1]))
            self.assertIs(machines.accepts(tuple(others)), accepts(automaton, second[:size + 1]))
        self.assertEqual(tuple(ones), run_apart(machines, RING, first))
        self.assertEqual(tuple(others), run_apart(Machines(RING, automaton), RING, second))

    def test_the_beginning(self):
        machines = Machines(SHARED, Automaton(3, 0, [0], [[0, 0, 0]]))
        self.assertIs(type(machines.start()), tuple)
        self.assertEqual(len(machines.start()), 2)
        self.assertEqual(run_apart(machines, SHARED, ()), machines.start())
        self.assertIs(machines.accepts(machines.start()), True)

    def test_one_place(self):
        alphabet = Alphabet(1, [(0,), (0,)])
        automaton = automaton_of_words(2, [(0, 1, 1)])
        machines = Machines(alphabet, automaton)
        self.assertIs(machines.accepts(run_apart(machines, alphabet, (0, 1, 1))), True)
        self.assertIs(machines.accepts(run_apart(machines, alphabet, (1, 1, 0))), False)
