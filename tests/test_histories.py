import random
import unittest

from placewords.errors import NotReady
from placewords.events import is_below
from placewords.histories import History

from tests.samples import ALPHABETS, CHAIN, FREE, SHARED, below_pairs, orders, random_word


class HistoriesTest(unittest.TestCase):
    def check(self, alphabet, history, pairs):
        """Held against the list of the pairs of number and letter that must be left."""
        self.assertEqual(history.events(), pairs)
        self.assertIs(type(history.events()), list)
        self.assertTrue(all(type(pair) is tuple for pair in history.events()))
        word = tuple(letter for _, letter in pairs)
        if len(pairs) < 8:
            self.assertEqual(history.word(), min(orders(alphabet, word)))
        self.assertIs(type(history.word()), tuple)
        for i, (number, _) in enumerate(pairs):
            expected = [other for j, (other, _) in enumerate(pairs) if is_below(alphabet, word, i, j)]
            self.assertEqual(history.must_undo(number), expected)
            self.assertIs(type(history.must_undo(number)), list)

    def test_drawn_histories(self):
        rng = random.Random(90)
        undone = 0
        for alphabet in ALPHABETS:
            for _ in range(6):
                history = History(alphabet)
                pairs, many = [], 0
                for _ in range(30):
                    if rng.random() < 0.6:
                        letter = rng.randrange(len(alphabet.letters))
                        self.assertEqual(history.happen(letter), many)
                        pairs.append((many, letter))
                        many += 1
                    else:
                        number = rng.randint(-2, many + 1)
                        word = [letter for _, letter in pairs]
                        numbers = [own for own, _ in pairs]
                        at = numbers.index(number) if number in numbers else -1
                        if at < 0 or any((at, j) in below_pairs(alphabet, word) for j in range(at + 1, len(word))):
                            with self.assertRaises(NotReady):
                                history.undo(number)
                        else:
                            self.assertIsNone(history.undo(number))
                            pairs.pop(at)
                            undone += 1
                    self.check(alphabet, history, pairs)
        self.assertGreater(undone, 50)

    def test_numbers_are_not_used_again(self):
        history = History(SHARED)
        self.assertEqual([history.happen(0), history.happen(1)], [0, 1])
        history.undo(1)
        self.assertEqual(history.happen(1), 2)
        history.undo(2)
        history.undo(0)
        self.assertEqual(history.events(), [])
        self.assertEqual(history.happen(2), 3)
        self.assertEqual(history.events(), [(3, 2)])

    def test_events_that_cannot_be_undone(self):
        history = History(SHARED)
        for letter in (0, 1, 2, 0):
            history.happen(letter)
        for number in (0, 1, 2, -1, -4, 4, 99):
            with self.assertRaises(NotReady):
                history.undo(number)
            self.check(SHARED, history, [(0, 0), (1, 1), (2, 2), (3, 0)])
        history.undo(3)
        with self.assertRaises(NotReady):
            history.undo(3)
        self.check(SHARED, history, [(0, 0), (1, 1), (2, 2)])
        self.assertEqual(history.happen(1), 4)
        with self.assertRaises(NotReady):
            history.undo(3)
        self.check(SHARED, history, [(0, 0), (1, 1), (2, 2), (4, 1)])

    def test_undo_at_the_beginning(self):
        history = History(FREE)
        for number in (-1, 0, 1):
            with self.assertRaises(NotReady):
                history.undo(number)
        self.check(FREE, history, [])
        self.assertEqual(history.word(), ())

    def test_independent_events_can_be_undone_in_any_order(self):
        history = History(FREE)
        for letter in (1, 0, 1):
            history.happen(letter)
        self.assertEqual(history.word(), (0, 1, 1))
        self.assertEqual(history.must_undo(0), [0, 2])
        history.undo(1)
        self.assertEqual(history.events(), [(0, 1), (2, 1)])
        history.undo(2)
        history.undo(0)
        self.assertEqual(history.events(), [])

    def test_what_rested_on_an_event_that_was_undone(self):
        # Once the event between both is undone, the last one rests on the first one no more.
        history = History(CHAIN)
        for letter in (0, 1):
            history.happen(letter)
        self.assertEqual(history.must_undo(0), [0, 1])
        history.undo(1)
        history.happen(2)
        self.assertEqual(history.must_undo(0), [0])
        history.undo(0)
        self.assertEqual(history.events(), [(2, 2)])

    def test_must_undo_is_enough(self):
        rng = random.Random(91)
        for alphabet in ALPHABETS:
            history = History(alphabet)
            for letter in random_word(rng, alphabet, 12):
                history.happen(letter)
            number = rng.randrange(12)
            needed = history.must_undo(number)
            self.assertEqual(needed[0], number)
            for other in reversed(needed):
                history.undo(other)
            left = [own for own, _ in history.events()]
            self.assertEqual(left, [own for own in range(12) if own not in needed])

    def test_histories_stand_alone_and_return_new_lists(self):
        one, other = History(SHARED), History(SHARED)
        one.happen(0)
        self.assertEqual(other.events(), [])
        one.events().clear()
        one.must_undo(0).clear()
        self.assertEqual((one.events(), one.must_undo(0)), ([(0, 0)], [0]))
