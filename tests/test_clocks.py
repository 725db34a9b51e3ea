import itertools
import random
import unittest

from placewords.alphabets import Alphabet
from placewords.clocks import clock_below, clocks, logs_of, word_of_logs
from placewords.events import is_below
from placewords.ledgers import gathered

from tests.samples import ALPHABETS, CHAIN, FREE, RING, SHARED, below_pairs, orders, random_word, short_words


def plain_clocks(alphabet, word):
    """For each event the numbers of the letters of all events below it."""
    below = below_pairs(alphabet, word)
    return [
        tuple(sum(1 for i in range(len(word)) if (i, j) in below and word[i] == letter)
              for letter in range(len(alphabet.letters)))
        for j in range(len(word))
    ]


def plain_logs(alphabet, word):
    rows = list(zip(word, plain_clocks(alphabet, word)))
    return [[row for row in rows if place in alphabet.letters[row[0]]] for place in range(alphabet.places)]


class ClocksTest(unittest.TestCase):
    def test_the_examples(self):
        alphabet = Alphabet(2, [(0,), (1,), (0, 1)])
        self.assertEqual(clocks(alphabet, (0, 1, 2)), [(1, 0, 0), (0, 1, 0), (1, 1, 1)])
        found = (
            word_of_logs(alphabet, [[(0, (1, 0, 0))], []]), word_of_logs(alphabet, [[(0, (1, 1, 0))], []])
        )
        self.assertEqual(found, ((0,), None))

    def test_clocks_and_ledgers(self):
        rng = random.Random(85)
        for alphabet in ALPHABETS:
            for word in short_words(alphabet, 60) + [random_word(rng, alphabet, 12) for _ in range(8)]:
                found = clocks(alphabet, list(word))
                self.assertIs(type(found), list)
                self.assertTrue(all(type(clock) is tuple for clock in found))
                self.assertEqual(found, plain_clocks(alphabet, word))
                for event, clock in enumerate(found):
                    rows = gathered(alphabet, word[:event + 1])
                    for place in alphabet.letters[word[event]]:
                        self.assertEqual(clock, rows[place])
                self.assertEqual(len(set(found)), len(word))

    def test_below(self):
        rng = random.Random(86)
        for alphabet in ALPHABETS:
            for _ in range(8):
                word = random_word(rng, alphabet, 9)
                found = clocks(alphabet, word)
                for i, j in itertools.product(range(9), repeat=2):
                    self.assertIs(clock_below(found[i], found[j]), is_below(alphabet, word, i, j))
        self.assertIs(clock_below((0, 0), (0, 0)), True)
        self.assertIs(clock_below((1, 0), (0, 5)), False)
        self.assertIs(clock_below((0, 5), (1, 4)), False)
        self.assertIs(clock_below([0, 5], [0, 6]), True)

    def test_long_words(self):
        self.assertEqual(clocks(SHARED, (2,) * 1000)[-1], (0, 0, 1000))
        self.assertEqual(clocks(SHARED, (0, 1) * 500)[-2:], [(500, 0, 0), (0, 500, 0)])

    def test_the_empty_word(self):
        for alphabet in ALPHABETS:
            self.assertEqual(clocks(alphabet, ()), [])
            self.assertEqual(logs_of(alphabet, ()), [[] for _ in range(alphabet.places)])
            self.assertEqual(word_of_logs(alphabet, [[] for _ in range(alphabet.places)]), ())


class LogsTest(unittest.TestCase):
    def test_true_logs(self):
        rng = random.Random(87)
        for alphabet in ALPHABETS:
            for word in short_words(alphabet, 100) + [random_word(rng, alphabet, 7) for _ in range(5)]:
                logs = plain_logs(alphabet, word)
                found = logs_of(alphabet, list(word))
                self.assertEqual(found, logs)
                self.assertEqual([type(log) for log in (found, *found)], [list] * (1 + alphabet.places))
                self.assertTrue(all(type(pair) is tuple for log in found for pair in log))
                same = orders(alphabet, word)
                least = word_of_logs(alphabet, logs)
                self.assertEqual(least, min(same))
                self.assertIs(type(least), tuple)
                for order in same:
                    self.assertEqual(logs_of(alphabet, order), logs)

    def falsified(self, rng, alphabet, logs):
        """Logs with one change, of each kind that is possible."""
        places = [place for place in range(alphabet.places) if logs[place]]
        for place in places:
            log = logs[place]
            at = rng.randrange(len(log))
            letter, clock = log[at]
            index = rng.randrange(len(clock))
            for change in (1, -1):
                other = clock[:index] + (clock[index] + change,) + clock[index + 1:]
                yield place, log[:at] + [(letter, other)] + log[at + 1:]
            yield place, log[:at] + log[at + 1:]
            yield place, log[:at] + [log[at]] + log[at:]
            yield place, log[:at] + [(rng.randrange(len(clock)), clock)] + log[at + 1:]
            if len(log) > 1:
                at = rng.randrange(len(log) - 1)
                yield place, log[:at] + [log[at + 1], log[at]] + log[at + 2:]
                one, other = log[at], log[at + 1]
                yield place, log[:at] + [(one[0], other[1]), (other[0], one[1])] + log[at + 2:]

    def test_false_logs(self):
        rng = random.Random(88)
        known = 0
        for alphabet in ALPHABETS:
            true = {}
            for word in short_words(alphabet, 1000):
                key = tuple(tuple(log) for log in plain_logs(alphabet, word))
                true[key] = min(true.get(key, word), word)
            length = max(len(word) for word in true.values())
            for _ in range(20):
                word = random_word(rng, alphabet, rng.randint(1, length - 1))
                logs = plain_logs(alphabet, word)
                for place, log in self.falsified(rng, alphabet, logs):
                    wrong = logs[:place] + [log] + logs[place + 1:]
                    # A change can by chance make the logs of another word.
                    expected = true.get(tuple(tuple(one) for one in wrong))
                    self.assertEqual(word_of_logs(alphabet, wrong), expected)
                    known += expected is not None
        self.assertGreater(known, 0)

    def test_a_word_has_the_logs_that_were_passed(self):
        rng = random.Random(89)
        for alphabet in (SHARED, CHAIN, RING):
            for _ in range(60):
                one, other = random_word(rng, alphabet, 4), random_word(rng, alphabet, 4)
                logs = [rng.choice(pair) for pair in zip(logs_of(alphabet, one), logs_of(alphabet, other))]
                found = word_of_logs(alphabet, logs)
                if found is not None:
                    self.assertEqual(logs_of(alphabet, found), logs)
                if logs == logs_of(alphabet, one):
                    self.assertIsNotNone(found)

    def test_wrong_clocks(self):
        good = [[(0, (1, 0, 0)), (2, (1, 1, 1))], [(1, (0, 1, 0)), (2, (1, 1, 1))]]
        self.assertEqual(word_of_logs(SHARED, good), (0, 1, 2))
        for clock in ((0, 0, 0), (2, 0, 0), (1, 0, 1), (-1, 0, 0), (1, 1, 0), (10 ** 9, 0, 0)):
            self.assertIsNone(word_of_logs(SHARED, [[(0, clock), good[0][1]], good[1]]))
        # The same event has different clocks at its places.
        self.assertIsNone(word_of_logs(SHARED, [[good[0][0], (2, (1, 0, 1))], good[1]]))
        self.assertIsNone(word_of_logs(SHARED, [good[0], []]))
        self.assertIsNone(word_of_logs(SHARED, [[], good[1]]))
        self.assertIsNone(word_of_logs(SHARED, [good[0][:1], good[1]]))
        self.assertIsNone(word_of_logs(SHARED, [good[0][::-1], good[1]]))
        self.assertIsNone(word_of_logs(SHARED, [good[1], good[0]]))

    def test_letters_that_do_not_happen_at_the_place(self):
        self.assertIsNone(word_of_logs(FREE, [[(1, (0, 1))], [(1, (0, 1))]]))
        self.assertIsNone(word_of_logs(FREE, [[(1, (0, 1))], []]))
        self.assertIsNone(word_of_logs(SHARED, [[(0, (1, 0, 0)), (1, (0, 1, 0))], [(1, (0, 1, 0))]]))
        self.assertIsNone(word_of_logs(CHAIN, [[(0, (1, 0, 0))], [(0, (1, 0, 0))], [(0, (1, 0, 0))]]))

    def test_that_logs_stay_as_they_are(self):
        logs = [[(0, (1, 0, 0))], []]
        word_of_logs(SHARED, logs)
        self.assertEqual(logs, [[(0, (1, 0, 0))], []])
        self.assertIsNot(logs_of(SHARED, (0,)), logs_of(SHARED, (0,)))
