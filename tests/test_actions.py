import itertools
import random
import unittest

from placewords.actions import action, actions, unsettled_word
from placewords.automata import Automaton, least
from placewords.errors import TooLarge

from tests.samples import ALPHABETS, closed_automaton, random_automaton, words_up_to


def run(automaton, word):
    """The states behind a word from each state on, one after the other."""
    states = []
    for state in range(len(automaton.rows)):
        for letter in word:
            state = automaton.rows[state][letter]
        states.append(state)
    return tuple(states)


def all_actions(automaton):
    """Each action of the least automaton with its shortest and then least word, length by length."""
    small = least(automaton)
    table = {}
    length = 0
    while True:
        new = []
        for word in itertools.product(range(small.letters), repeat=length):
            if run(small, word) not in table:
                table[run(small, word)] = word
                new.append(word)
        if not new:
            return [(word, found) for found, word in table.items()]
        length += 1


def settles(automaton, word):
    small = least(automaton)
    return any(run(small, word * n) == run(small, word * (n + 1)) for n in range(len(small.rows) + 1))


def cycle(many):
    return Automaton(1, 0, [0], [[(state + 1) % many] for state in range(many)])


def line(many):
    """Words of just one length: the states go along to the last one, behind the only final one."""
    return Automaton(1, 0, [many - 2], [[min(state + 1, many - 1)] for state in range(many)])


class ActionsTest(unittest.TestCase):
    even = Automaton(2, 0, [0], [[1, 0], [0, 1]])

    def test_the_examples(self):
        self.assertEqual((actions(self.even), unsettled_word(self.even)), ([((), (0, 1)), ((0,), (1, 0))], (0,)))

    def test_action(self):
        rng = random.Random(49)
        for _ in range(30):
            automaton = random_automaton(rng, rng.randint(1, 3), rng.randint(1, 6))
            for word in words_up_to(automaton.letters, 4):
                self.assertEqual(action(automaton, word), run(automaton, word))
                self.assertIs(type(action(automaton, list(word))), tuple)
            self.assertEqual(action(automaton, ()), tuple(range(len(automaton.rows))))

    def test_an_automaton_that_is_not_least(self):
        # The second state is equal to the first one, and the third one is not reached.
        wide = Automaton(1, 0, [0, 1], [[1], [0], [2]])
        self.assertEqual(action(wide, (0,)), (1, 0, 2))
        self.assertEqual(actions(wide), [((), (0,))])
        self.assertIsNone(unsettled_word(wide))
        rng = random.Random(50)
        for _ in range(20):
            automaton = random_automaton(rng, 2, 5)
            self.assertEqual(actions(automaton), actions(least(automaton)))

    def test_tables(self):
        rng = random.Random(51)
        tried = 0
        while tried < 40:
            automaton = random_automaton(rng, rng.randint(1, 3), rng.randint(1, 3))
            expected = all_actions(automaton)
            table = actions(automaton)
            self.assertEqual(table, expected)
            self.assertIs(type(table), list)
            for row in table:
                self.assertEqual([type(part) for part in (row, *row)], [tuple] * 3)
            words = [word for word, _ in table]
            self.assertEqual(words, sorted(words, key=lambda word: (len(word), word)))
            tried += 1

    def test_words_that_settle(self):
        rng = random.Random(52)
        found = {True: 0, False: 0}
        for alphabet in ALPHABETS:
            for _ in range(5):
                many = len(alphabet.letters)
                automata = [random_automaton(rng, min(many, 3), 3)]
                if many <= 4:
                    automata.append(closed_automaton(rng, alphabet, [rng.choice([1, 1, 2]) for _ in alphabet.letters]))
                for automaton in automata:
                    table = actions(automaton)
                    wrong = [word for word, _ in table if not settles(automaton, word)]
                    self.assertEqual(unsettled_word(automaton), wrong[0] if wrong else None)
                    found[bool(wrong)] += 1
        self.assertGreater(min(found.values()), 5)

    def test_words_that_settle_late(self):
        # The powers of 0 differ until all states are behind the last one.
        for many in (2, 3, 4, 5, 8, 9, 17):
            self.assertIsNone(unsettled_word(line(many)))
            self.assertEqual(len(actions(line(many))), many)
        # Three states ahead of a turn of two: it never settles.
        self.assertEqual(unsettled_word(Automaton(1, 0, [4], [[1], [2], [3], [4], [3]])), (0,))
        self.assertEqual(unsettled_word(cycle(2)), (0,))
        self.assertEqual(unsettled_word(cycle(7)), (0,))

    def test_the_empty_set(self):
        nothing = Automaton(2, 0, [], [[1, 0], [0, 1]])
        self.assertEqual(actions(nothing), [((), (0,))])
        self.assertIsNone(unsettled_word(nothing))

    def test_the_first_word_of_the_table(self):
        # Letter 0 settles, 1 does not and 2 does not either.
        automaton = Automaton(3, 0, [0], [[0, 1, 2], [0, 0, 1], [0, 2, 0]])
        expected = [word for word, _ in all_actions(automaton) if not settles(automaton, word)][0]
        self.assertEqual(unsettled_word(automaton), expected)
        self.assertEqual(expected, (1,))

    def test_400_actions_and_more(self):
        for function in (actions, unsettled_word):
            with self.assertRaises(TooLarge):
                function(cycle(401))
            with self.assertRaises(TooLarge):
                function(line(401))
        self.assertEqual(len(actions(cycle(400))), 400)
        self.assertEqual(unsettled_word(cycle(400)), (0,))
        self.assertIsNone(unsettled_word(line(400)))
        # All maps of four states are 256, all of five are 3125.
        four = Automaton(3, 0, [0], [[1, 1, 1], [2, 0, 1], [3, 2, 2], [0, 3, 3]])
        self.assertEqual(len(actions(four)), 256)
        five = Automaton(3, 0, [0], [[1, 1, 1], [2, 0, 1], [3, 2, 2], [4, 3, 3], [0, 4, 4]])
        with self.assertRaises(TooLarge):
            actions(five)
        with self.assertRaises(TooLarge):
            unsettled_word(five)

    def test_the_table_is_new_each_time(self):
        actions(self.even).clear()
        self.assertEqual(len(actions(self.even)), 2)
