import itertools
import random
import unittest

from placewords.alphabets import Alphabet
from placewords.automata import accepts
from placewords.errors import NotReady
from placewords.machines import Machines
from placewords.players import Player, queues_of, word_of

from tests.samples import (
    ALPHABETS, CHAIN, FREE, RING, SHARED, all_orders_automaton, closed_automaton, orders, plain_queues,
    plain_ready, random_word, short_words,
)


def a_machine(alphabet, seed=1):
    sizes = [2] * alphabet.places
    return closed_automaton(random.Random(seed), alphabet, sizes)


class QueuesTest(unittest.TestCase):
    def test_the_examples(self):
        alphabet = Alphabet(2, [(0,), (1,), (0, 1)])
        found = (
            queues_of(alphabet, (1, 0, 2)), word_of(alphabet, [(0, 2), (1, 2)]),
            word_of(alphabet, [(0, 2), (2, 1, 2)]),
        )
        self.assertEqual(found, ([(0, 2), (1, 2)], (0, 1, 2), None))

    def test_all_orders_of_short_words(self):
        for alphabet in ALPHABETS:
            for word in short_words(alphabet, 200):
                same = orders(alphabet, word)
                queues = plain_queues(alphabet, word)
                for order in same:
                    self.assertEqual(queues_of(alphabet, order), queues)
                self.assertEqual(queues_of(alphabet, list(word)), queues)
                found = word_of(alphabet, queues)
                self.assertIs(type(found), tuple)
                self.assertEqual(found, min(same))

    def test_every_list_of_short_queues(self):
        # All lists of queues with at most two letters each, whole ones and others.
        for alphabet in (SHARED, CHAIN, FREE):
            words = {}
            for word in short_words(alphabet, 1500):
                key = tuple(plain_queues(alphabet, word))
                words[key] = min(words.get(key, word), word)
            choices = []
            for place in range(alphabet.places):
                own = [letter for letter, places in enumerate(alphabet.letters) if place in places]
                choices.append([queue for size in range(3) for queue in itertools.product(own, repeat=size)])
            for queues in itertools.product(*choices):
                self.assertEqual(word_of(alphabet, list(queues)), words.get(queues), queues)

    def test_queues_that_are_not_whole(self):
        self.assertEqual(word_of(RING, [(0, 3), (0, 1), (1, 2), (2, 3)]), (0, 1, 2, 3))
        for queues in (
            [(3, 0), (0, 1), (1, 2), (2, 3)],
            [(0, 3), (0, 1), (1, 2), (2,)],
            [(0, 3), (0, 1), (1, 2), (2, 3, 2)],
            [(0, 3, 0), (0, 1), (1, 2), (2, 3)],
            [(), (0, 1), (1, 2), (2, 3)],
            [(0, 3), (0, 1), (), (2, 3)],
        ):
            self.assertIsNone(word_of(RING, queues))
        # Each place waits for the next one around the ring, though all numbers of letters fit.
        self.assertIsNone(word_of(RING, [(3, 0), (0, 1), (1, 2), (2, 3)]))
        self.assertIsNone(word_of(SHARED, [(), (2,)]))
        self.assertIsNone(word_of(SHARED, [(0, 2), ()]))
        self.assertEqual(word_of(SHARED, [(), (1,)]), (1,))
        self.assertEqual(word_of(SHARED, [(), ()]), ())

    def test_lists_and_tuples_and_that_they_stay_as_they_are(self):
        queues = [[0, 2], (1, 2)]
        self.assertEqual(word_of(SHARED, queues), (0, 1, 2))
        self.assertEqual(word_of(SHARED, [[0, 2], [1, 2]]), (0, 1, 2))
        self.assertEqual(queues, [[0, 2], (1, 2)])
        word = [1, 0, 2]
        first = queues_of(SHARED, word)
        self.assertIsNot(first, queues_of(SHARED, word))
        self.assertEqual(word, [1, 0, 2])


class PlayerTest(unittest.TestCase):
    def check(self, alphabet, automaton, player, queues, letters):
        ready = plain_ready(alphabet, queues)
        done = all(len(queue) == 0 for queue in queues)
        self.assertEqual(player.ready(), ready)
        self.assertIs(type(player.ready()), list)
        self.assertIs(player.is_done(), done)
        self.assertIs(player.is_stuck(), not done and not ready)
        self.assertEqual(player.happened(), letters)
        self.assertIs(type(player.happened()), list)
        self.assertIs(player.accepts(), accepts(automaton, letters))

    def play(self, rng, alphabet, automaton, machines, queues):
        """Let ready letters happen, and try those that are not, until none is ready."""
        player = Player(alphabet, machines, queues)
        left = [list(queue) for queue in queues]
        letters = []
        self.check(alphabet, automaton, player, left, letters)
        while True:
            ready = plain_ready(alphabet, left)
            for letter in range(len(alphabet.letters)):
                if letter not in ready:
                    with self.assertRaises(NotReady):
                        player.happen(letter)
                    self.check(alphabet, automaton, player, left, letters)
            if not ready:
                return player
            letter = rng.choice(ready)
            self.assertIsNone(player.happen(letter))
            for place in alphabet.letters[letter]:
                left[place].pop(0)
            letters.append(letter)
            self.check(alphabet, automaton, player, left, letters)

    def test_whole_queues(self):
        rng = random.Random(41)
        for alphabet in ALPHABETS:
            automaton = a_machine(alphabet)
            machines = Machines(alphabet, automaton)
            for _ in range(6):
                word = random_word(rng, alphabet, rng.randint(0, 12))
                player = self.play(rng, alphabet, automaton, machines, plain_queues(alphabet, word))
                self.assertTrue(player.is_done())
                self.assertFalse(player.is_stuck())
                self.assertEqual(plain_queues(alphabet, player.happened()), plain_queues(alphabet, word))
                self.assertIs(player.accepts(), accepts(automaton, word))

    def test_whole_queues_whatever_is_chosen(self):
        machines = Machines(CHAIN, a_machine(CHAIN))
        for word in short_words(CHAIN, 150):
            ends = set()
            front = [()]
            while front:
                begun = front.pop()
                player = Player(CHAIN, machines, plain_queues(CHAIN, word))
                for letter in begun:
                    player.happen(letter)
                self.assertFalse(player.is_stuck())
                if player.is_done():
                    ends.add(begun)
                front += [begun + (letter,) for letter in player.ready()]
            self.assertEqual(ends, set(orders(CHAIN, word)))

    def test_queues_that_are_not_whole(self):
        rng = random.Random(42)
        for alphabet in ALPHABETS:
            automaton = a_machine(alphabet)
            machines = Machines(alphabet, automaton)
            for _ in range(12):
                queues = plain_queues(alphabet, random_word(rng, alphabet, 8))
                place = rng.randrange(alphabet.places)
                queue = list(queues[place])
                own = [letter for letter, places in enumerate(alphabet.letters) if place in places]
                kind = rng.randrange(3)
                if kind == 0 and len(queue) > 1:
                    at = rng.randrange(len(queue) - 1)
                    queue[at], queue[at + 1] = queue[at + 1], queue[at]
                elif kind == 1 and queue:
                    queue.pop(rng.randrange(len(queue)))
                else:
                    queue.insert(rng.randint(0, len(queue)), rng.choice(own))
                queues[place] = tuple(queue)
                player = self.play(rng, alphabet, automaton, machines, queues)
                self.assertIs(player.is_done(), word_of(alphabet, queues) is not None)
                self.assertIs(player.is_stuck(), word_of(alphabet, queues) is None)

    def test_no_queue_has_a_letter(self):
        automaton = all_orders_automaton(SHARED, [(0, 2)])
        player = Player(SHARED, Machines(SHARED, automaton), [(), ()])
        self.assertEqual((player.ready(), player.happened()), ([], []))
        self.assertEqual((player.is_done(), player.is_stuck(), player.accepts()), (True, False, False))
        with self.assertRaises(NotReady):
            player.happen(0)

    def test_stuck_at_once(self):
        automaton = all_orders_automaton(SHARED, [()])
        player = Player(SHARED, Machines(SHARED, automaton), [(2, 0), (1,)])
        self.assertEqual(player.ready(), [1])
        player = Player(SHARED, Machines(SHARED, automaton), [(2, 0), ()])
        self.assertEqual((player.ready(), player.is_stuck(), player.is_done()), ([], True, False))
        self.assertIs(player.accepts(), True)

    def test_letters_that_are_not_there(self):
        player = Player(SHARED, Machines(SHARED, a_machine(SHARED)), [(0,), (1,)])
        for letter in (-1, 3, 99):
            with self.assertRaises(NotReady):
                player.happen(letter)
        self.assertEqual(player.happened(), [])

    def test_two_players_over_one_object(self):
        rng = random.Random(43)
        automaton = a_machine(RING)
        machines = Machines(RING, automaton)
        words = [random_word(rng, RING, 30), random_word(rng, RING, 30)]
        players = [Player(RING, machines, plain_queues(RING, word)) for word in words]
        letters = [[], []]
        while not (players[0].is_done() and players[1].is_done()):
            at = rng.randrange(2)
            if not players[at].is_done():
                letter = rng.choice(players[at].ready())
                players[at].happen(letter)
                letters[at].append(letter)
            for player, happened in zip(players, letters):
                self.assertEqual(player.happened(), happened)
                self.assertIs(player.accepts(), accepts(automaton, happened))
        self.assertIs(players[0].accepts(), accepts(automaton, words[0]))
        self.assertIs(players[1].accepts(), accepts(automaton, words[1]))

    def test_lists_are_copied(self):
        queues = [[0, 2], [1, 2]]
        player = Player(SHARED, Machines(SHARED, a_machine(SHARED)), queues)
        queues[0].pop()
        queues.append([])
        for letter in (1, 0, 2):
            player.happen(letter)
        self.assertTrue(player.is_done())
        self.assertEqual(queues, [[0], [1, 2], []])
        player.happened().append(0)
        self.assertEqual(player.happened(), [1, 0, 2])
        queues = [[0, 2], [1, 2]]
        player = Player(SHARED, Machines(SHARED, a_machine(SHARED)), queues)
        player.happen(0)
        self.assertEqual(queues, [[0, 2], [1, 2]])
