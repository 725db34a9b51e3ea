import random
import unittest

from placewords.times import critical_chain, ending_times, least_time

from tests.samples import ALPHABETS, APART, CHAIN, FREE, ONE_PLACE, RING, SHARED, apart, one_swap, random_word, short_words


def plain_ends(alphabet, word, times):
    """Event by event, behind the latest end of all events directly before it."""
    ends = []
    for event, letter in enumerate(word):
        before = [ends[other] for other in range(event) if not apart(alphabet, word[other], letter)]
        ends.append(max(before, default=0) + times[letter])
    return ends


class TimesTest(unittest.TestCase):
    def check(self, alphabet, word, times):
        expected = plain_ends(alphabet, word, times)
        found = ending_times(alphabet, list(word), times)
        self.assertEqual(found, expected)
        self.assertIs(type(found), list)
        self.assertEqual(least_time(alphabet, list(word), times), max(expected, default=0))
        chain = critical_chain(alphabet, list(word), times)
        self.assertIs(type(chain), list)
        for one, other in zip(chain, chain[1:]):
            self.assertLess(one, other)
            self.assertFalse(apart(alphabet, word[one], word[other]))
        self.assertEqual(sum(times[word[event]] for event in chain), max(expected, default=0))
        self.assertEqual(chain, critical_chain(alphabet, tuple(word), tuple(times)))

    def test_the_example(self):
        found = (ending_times(SHARED, (0, 1, 2), [5, 3, 1]), critical_chain(SHARED, (0, 1, 2), [5, 3, 1]))
        self.assertEqual(found, ([5, 3, 6], [0, 2]))
        self.assertEqual(least_time(SHARED, (0, 1, 2), [5, 3, 1]), 6)

    def test_short_and_drawn_words(self):
        rng = random.Random(144)
        for alphabet in ALPHABETS:
            for word in short_words(alphabet, 60) + [random_word(rng, alphabet, 20) for _ in range(20)]:
                self.check(alphabet, word, [rng.randint(1, 6) for _ in alphabet.letters])

    def test_the_same_time_for_all_letters(self):
        rng = random.Random(145)
        for alphabet in ALPHABETS:
            for _ in range(10):
                word = random_word(rng, alphabet, 15)
                self.check(alphabet, word, [1] * len(alphabet.letters))
                self.check(alphabet, word, [7] * len(alphabet.letters))
        self.assertEqual(least_time(FREE, (0, 1) * 5, [1, 1]), 5)
        self.assertEqual(least_time(ONE_PLACE, (0, 1) * 5, [1, 1]), 10)

    def test_very_large_times(self):
        rng = random.Random(146)
        for alphabet in ALPHABETS:
            times = [rng.choice([1, 10 ** 9, 10 ** 30, 2 ** 64 + 1]) for _ in alphabet.letters]
            self.check(alphabet, random_word(rng, alphabet, 12), times)
        self.assertEqual(least_time(SHARED, (0, 1, 1, 2), [10 ** 40, 1, 3]), 10 ** 40 + 3)

    def test_equivalent_words(self):
        rng = random.Random(147)
        for alphabet in ALPHABETS:
            for _ in range(10):
                word = random_word(rng, alphabet, 10)
                times = [rng.randint(1, 9) for _ in alphabet.letters]
                other = word
                for _ in range(20):
                    other = rng.choice([*one_swap(alphabet, other), other])
                self.assertEqual(least_time(alphabet, word, times), least_time(alphabet, other, times))

    def test_the_empty_word(self):
        for alphabet in ALPHABETS:
            times = [3] * len(alphabet.letters)
            self.assertEqual(ending_times(alphabet, (), times), [])
            self.assertEqual(least_time(alphabet, (), times), 0)
            self.assertEqual(critical_chain(alphabet, (), times), [])

    def test_letters_that_wait_and_letters_that_do_not(self):
        self.assertEqual(ending_times(CHAIN, (0, 2, 2, 1, 0), [2, 10, 3]), [2, 3, 6, 16, 18])
        self.assertEqual(critical_chain(CHAIN, (0, 2, 2, 1, 0), [2, 10, 3]), [1, 2, 3, 4])
        self.assertEqual(ending_times(APART, (0, 1, 2, 3, 0), [1, 2, 3, 4]), [1, 2, 3, 4, 2])
        self.assertEqual(critical_chain(APART, (0, 1, 2, 3, 0), [1, 2, 3, 4]), [3])

    def test_long_words(self):
        rng = random.Random(148)
        for alphabet in (SHARED, RING):
            self.check(alphabet, random_word(rng, alphabet, 1000), [rng.randint(1, 50) for _ in alphabet.letters])

    def test_arguments_stay_as_they_are(self):
        word, times = [0, 1, 2], [5, 3, 1]
        ending_times(SHARED, word, times).append(4)
        critical_chain(SHARED, word, times).append(4)
        self.assertEqual((word, times), ([0, 1, 2], [5, 3, 1]))
        self.assertEqual(ending_times(SHARED, word, times), [5, 3, 6])
