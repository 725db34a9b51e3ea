import random
import unittest

from placewords.knowledge import is_true

from tests.samples import ALPHABETS, APART, CHAIN, FREE, RING, SHARED, orders, past, plain_queues, random_word

ALWAYS = ("count", 0, 0)
NEVER = ("not", ALWAYS)


def view_word(alphabet, word, place):
    events = past(alphabet, word, place)
    return [letter for event, letter in enumerate(word) if event in events]


def takes(alphabet, place, word, other):
    """Whether the place takes the other word for possible at the word."""
    one, two = view_word(alphabet, word, place), view_word(alphabet, other, place)
    return plain_queues(alphabet, one) == plain_queues(alphabet, two)


def plain_truth(alphabet, words, word, fact):
    kind = fact[0]
    if kind == "count":
        return word.count(fact[1]) >= fact[2]
    if kind == "not":
        return not plain_truth(alphabet, words, word, fact[1])
    if kind == "both":
        return all(plain_truth(alphabet, words, word, part) for part in fact[1:])
    if kind == "knows":
        seen = [other for other in words if takes(alphabet, fact[1], word, other)]
        return all(plain_truth(alphabet, words, other, fact[2]) for other in seen)
    found = [word]
    for one in found:
        for other in words:
            if other not in found and any(takes(alphabet, place, one, other) for place in range(alphabet.places)):
                found.append(other)
    return all(plain_truth(alphabet, words, other, fact[1]) for other in found)


def drawn_fact(rng, alphabet, parts):
    if parts == 1:
        return ("count", rng.randrange(len(alphabet.letters)), rng.randint(0, 3))
    kind = rng.choice(["not", "both", "knows", "knows", "common"])
    if kind == "both" and parts > 2:
        first = rng.randint(1, parts - 2)
        return ("both", drawn_fact(rng, alphabet, first), drawn_fact(rng, alphabet, parts - 1 - first))
    if kind == "knows":
        return ("knows", rng.randrange(alphabet.places), drawn_fact(rng, alphabet, parts - 1))
    return ("common" if kind == "common" else "not", drawn_fact(rng, alphabet, parts - 1))


def drawn_words(rng, alphabet, many):
    """Words of which many begin alike."""
    words = [random_word(rng, alphabet, rng.randint(0, 5))]
    while len(words) < many:
        word = rng.choice(words)
        kind = rng.randrange(3)
        if kind == 0:
            word = rng.choice(sorted(orders(alphabet, word)))
        elif kind == 1:
            word = word[:rng.randint(0, len(word))]
        words.append(word + random_word(rng, alphabet, rng.randint(0, 2)))
    return words


class KnowledgeTest(unittest.TestCase):
    def check(self, alphabet, words, word, fact):
        found = is_true(alphabet, words, word, fact)
        self.assertIs(type(found), bool)
        self.assertIs(found, plain_truth(alphabet, words, word, fact), (alphabet.letters, words, word, fact))
        return found

    def test_the_example(self):
        words = [(0,), (0, 1), (0, 1, 2)]
        fact = ("knows", 0, ("count", 1, 1))
        self.assertEqual((is_true(SHARED, words, (0, 1, 2), fact), is_true(SHARED, words, (0, 1), fact)), (True, False))

    def test_drawn_facts(self):
        rng = random.Random(121)
        for alphabet in ALPHABETS:
            for _ in range(40):
                words = drawn_words(rng, alphabet, rng.randint(1, 8))
                word = rng.choice(words + drawn_words(rng, alphabet, 2))
                for _ in range(4):
                    self.check(alphabet, words, word, drawn_fact(rng, alphabet, rng.randint(1, 6)))

    def test_count(self):
        for many, expected in ((-1, True), (0, True), (1, True), (2, True), (3, False)):
            self.assertIs(is_true(SHARED, [], (0, 1, 0), ("count", 0, many)), expected)
        self.assertIs(is_true(SHARED, [(2,)], (0, 1, 0), ("count", 2, 1)), False)

    def test_knows(self):
        words = [(0,), (0, 1), (0, 1, 2)]
        self.assertTrue(self.check(SHARED, words, (0, 1), ("knows", 1, ("count", 1, 1))))
        self.assertFalse(self.check(SHARED, words, (0, 1), ("knows", 1, ("count", 2, 1))))
        # Nobody knows that the others have gone on, unless they have met.
        self.assertFalse(self.check(SHARED, words, (0, 1), ("knows", 0, ("count", 1, 1))))
        self.assertFalse(self.check(SHARED, words, (0, 1), ("knows", 0, ("not", ("count", 1, 1)))))
        self.assertTrue(self.check(SHARED, words, (0, 1, 2), ("knows", 0, ("knows", 1, ("count", 0, 1)))))
        # What is known is true, for words that are possible.
        self.assertFalse(self.check(SHARED, [(0,)], (0,), ("knows", 1, NEVER)))
        self.assertTrue(self.check(SHARED, [(0,), (1,)], (0,), ("knows", 0, ("count", 0, 1))))

    def test_a_word_that_is_not_among_the_possible_words(self):
        words = [(0, 1)]
        self.assertTrue(self.check(SHARED, words, (0, 2), ("count", 2, 1)))
        # No possible word looks like it, so each fact is known; it is not among them itself.
        self.assertTrue(self.check(SHARED, words, (0, 2), ("knows", 0, NEVER)))
        self.assertTrue(self.check(SHARED, words, (0, 2), ("knows", 0, ("count", 1, 1))))
        # A possible word that looks the same at the place, and has no 1.
        self.assertFalse(self.check(FREE, [(0,)], (0, 1), ("knows", 0, ("count", 1, 1))))
        self.assertTrue(self.check(FREE, [(0, 1)], (0,), ("knows", 0, ("count", 1, 1))))
        # The order of the word does not matter.
        self.assertFalse(self.check(FREE, [(1, 0)], (0, 1), ("knows", 0, NEVER)))

    def test_no_possible_words(self):
        for word in ((), (0, 1, 2)):
            for place in (0, 1):
                self.assertTrue(self.check(SHARED, [], word, ("knows", place, NEVER)))
            self.assertFalse(self.check(SHARED, [], word, ("common", NEVER)))
            self.assertTrue(self.check(SHARED, [], word, ("common", ALWAYS)))
            self.assertTrue(self.check(SHARED, [], word, ("common", ("knows", 0, NEVER))))

    def test_equivalent_possible_words(self):
        words = [(0, 1), (1, 0), (1, 0), (1,)]
        for word in words:
            for place in (0, 1):
                self.assertIs(self.check(SHARED, words, word, ("knows", place, ("count", 1, 1))), True)
                self.assertIs(self.check(SHARED, words, word, ("knows", place, ("count", 0, 1))),
                              place == 0 and word != (1,))

    def test_common_over_several_steps(self):
        # A step leads from each number of letters at one place to the next one.
        words = [(0,), (0, 1), (0, 0, 1), (0, 0, 1, 1), (0, 0, 0, 1, 1)]
        self.assertTrue(self.check(FREE, words, (0,), ("common", ("count", 0, 1))))
        self.assertFalse(self.check(FREE, words, (0,), ("common", ("not", ("count", 0, 3)))))
        self.assertTrue(self.check(FREE, words[:4], (0,), ("common", ("not", ("count", 0, 3)))))
        self.assertTrue(self.check(FREE, words[:2] + words[3:], (0,), ("common", ("not", ("count", 0, 2)))))
        # Everybody knows it, and everybody knows that everybody does, but it is not common.
        fact = ("not", ("count", 1, 2))
        everybody = ("both", ("knows", 0, fact), ("knows", 1, fact))
        self.assertTrue(self.check(FREE, words, (0,), everybody))
        self.assertTrue(self.check(FREE, words, (0,), ("both", ("knows", 0, everybody), ("knows", 1, everybody))))
        self.assertFalse(self.check(FREE, words, (0,), ("common", fact)))

    def test_common_and_the_word_itself(self):
        # Each possible word has the letter, only the word itself has not.
        self.assertFalse(self.check(SHARED, [(2,), (0, 2)], (0, 1), ("common", ("count", 2, 1))))
        self.assertTrue(self.check(SHARED, [(2,), (0, 2)], (0, 1), ("common", ("not", ("count", 2, 1)))))
        self.assertFalse(self.check(FREE, [(0,), (0, 0)], (1,), ("common", ("count", 0, 1))))
        self.assertFalse(self.check(FREE, [(0,)], (0, 1), ("common", ("count", 1, 1))))
        # It is not a possible word, so no row leads through it.
        self.assertTrue(self.check(FREE, [(0,), (1, 1)], (0,), ("common", ("count", 0, 1))))

    def test_one_in_another(self):
        rng = random.Random(122)
        words = drawn_words(rng, SHARED, 6)
        for word in words:
            for outer in ("knows", "common"):
                for inner in ("knows", "common"):
                    fact = ("count", 1, 1)
                    for kind in (inner, outer):
                        fact = ("knows", 1, ("not", fact)) if kind == "knows" else ("common", fact)
                    self.check(SHARED, words, word, fact)

    def test_twenty_parts_and_twelve_words(self):
        rng = random.Random(123)
        for alphabet in (SHARED, CHAIN, APART, RING):
            words = drawn_words(rng, alphabet, 12)
            fact = ("count", 0, 1)
            for part in range(19):
                fact = ("common", fact) if part in (7, 15) else ("knows", part % alphabet.places, fact)
            for word in words:
                self.assertIs(type(is_true(alphabet, words, word, fact)), bool)
            for parts in (10, 20):
                is_true(alphabet, words, words[0], drawn_fact(rng, alphabet, parts))

    def test_lists(self):
        words, word = [[0], [0, 1], (0, 1, 2)], [0, 1, 2]
        self.assertIs(is_true(SHARED, words, word, ("knows", 0, ("count", 1, 1))), True)
        self.assertEqual((words, word), ([[0], [0, 1], (0, 1, 2)], [0, 1, 2]))
