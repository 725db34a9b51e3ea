import random
import unittest

from placewords.alphabets import Alphabet
from placewords.automata import Automaton, accepts
from placewords.closure import closed_fault, least_words
from placewords.errors import NotClosed, NotConnected, TooLarge
from placewords.expressions import automaton_expression, expression_automaton
from placewords.forms import least_form
from placewords.mixtures import difference, mixture
from placewords.products import unconnected_word

from tests.samples import (
    ALPHABETS, FREE, ONE_PLACE, RING, SHARED, SINGLE, accepted, all_orders_automaton, automaton_of_words,
    closed_automaton, is_numbered_and_least, orders, random_word, short_words,
)

A, B, C = ("letter", 0), ("letter", 1), ("letter", 2)
EMPTY, NONE = ("empty",), ("none",)


def all_joined(parts):
    found = parts[-1]
    for part in reversed(parts[:-1]):
        found = ("join", part, found)
    return found


def word_of(word):
    return all_joined([EMPTY] + [("letter", letter) for letter in word])


def random_expression(rng, alphabet, depth):
    kind = rng.choice(("either", "join", "join", "star", "letter"))
    if depth == 1 or kind == "letter":
        letter = ("letter", rng.randrange(len(alphabet.letters)))
        return rng.choice((letter, letter, letter, EMPTY, NONE))
    if kind == "star":
        return ("star", random_expression(rng, alphabet, depth - 1))
    return (kind, random_expression(rng, alphabet, depth - 1), random_expression(rng, alphabet, depth - 1))


def words_of(alphabet, expression, length):
    """The least forms of the words of an expression of at most this length."""
    kind = expression[0]
    if kind == "none":
        return set()
    if kind == "empty":
        return {()}
    if kind == "letter":
        return {(expression[1],)}
    parts = [words_of(alphabet, part, length) for part in expression[1:]]
    if kind == "either":
        return parts[0] | parts[1]
    if kind == "join":
        return products(alphabet, parts[0], parts[1], length)
    found, front = {()}, {()}
    while front:
        front = products(alphabet, front, parts[0], length) - found
        found |= front
    return found


def products(alphabet, first, second, length):
    return {least_form(alphabet, u + v) for u in first for v in second if len(u) + len(v) <= length}


def depth_of(expression):
    return 1 + max([depth_of(part) for part in expression[1:] if isinstance(part, tuple)], default=0)


def repeated_parts(expression):
    if expression[0] == "star":
        yield expression[1]
    for part in expression[1:]:
        if isinstance(part, tuple):
            yield from repeated_parts(part)


class ExpressionAutomatonTest(unittest.TestCase):
    def same(self, alphabet, expression, words):
        expected = automaton_of_words(len(alphabet.letters), words)
        found = expression_automaton(alphabet, expression)
        self.assertIsNone(difference(found, expected))
        self.assertTrue(is_numbered_and_least(found))

    def test_each_form(self):
        self.same(SHARED, NONE, [])
        self.same(SHARED, EMPTY, [()])
        for letter in range(3):
            self.same(SHARED, ("letter", letter), [(letter,)])
        self.same(SHARED, ("either", A, C), [(0,), (2,)])
        self.same(SHARED, ("join", A, C), [(0, 2)])
        self.same(SHARED, ("join", B, A), [(0, 1), (1, 0)])
        self.same(SHARED, ("join", NONE, A), [])
        self.same(SHARED, ("star", NONE), [()])
        self.same(SHARED, ("star", EMPTY), [()])
        self.same(SINGLE, A, [(0,)])

    def test_star(self):
        found = expression_automaton(SHARED, ("star", ("join", A, C)))
        self.assertEqual(accepted(found, 6), {(), (0, 2), (0, 2) * 2, (0, 2) * 3})
        found = expression_automaton(FREE, ("star", ("either", A, B)))
        self.assertEqual(found.rows, ((0, 0),))
        self.assertEqual(found.finals, (0,))

    def test_drawn_expressions(self):
        rng = random.Random(20)
        for alphabet in ALPHABETS:
            words = [word for word in short_words(alphabet, 400) if len(word) <= 6]
            length = len(words[-1])
            for _ in range(40):
                expression = random_expression(rng, alphabet, 4)
                try:
                    found = expression_automaton(alphabet, expression)
                except NotConnected:
                    continue
                self.assertTrue(is_numbered_and_least(found))
                self.assertIsNone(closed_fault(alphabet, found))
                expected = words_of(alphabet, expression, length)
                for word in words:
                    self.assertIs(accepts(found, word), least_form(alphabet, word) in expected)

    def test_not_connected(self):
        unconnected = ("join", A, B)
        for expression in (("star", unconnected), ("either", A, ("star", unconnected)),
                           ("join", ("star", unconnected), NONE), ("star", ("star", unconnected)),
                           ("star", ("either", A, unconnected))):
            with self.assertRaises(NotConnected):
                expression_automaton(FREE, expression)
        expression_automaton(FREE, unconnected)
        expression_automaton(SHARED, ("star", ("join", unconnected, C)))
        expression_automaton(FREE, ("star", ("join", unconnected, NONE)))

    def test_sixty_states_and_one_more(self):
        # A word of n letters has n + 1 states and one from which nothing is accepted.
        for alphabet in (ONE_PLACE, SHARED, RING):
            self.assertEqual(len(expression_automaton(alphabet, word_of((0,) * 58)).rows), 60)
            with self.assertRaises(TooLarge):
                expression_automaton(alphabet, word_of((0,) * 59))
        self.assertEqual(len(expression_automaton(SINGLE, ("star", word_of((0,) * 58))).rows), 58)

    def test_too_large_for_each_kind(self):
        large = word_of((0,) * 59)
        for expression in (("join", large, NONE), ("either", EMPTY, large), ("star", large), ("join", NONE, large)):
            with self.assertRaises(TooLarge):
                expression_automaton(SHARED, expression)
        with self.assertRaises(TooLarge):
            expression_automaton(FREE, ("join", word_of((0,) * 30), word_of((1,) * 30)))
        with self.assertRaises(TooLarge):
            expression_automaton(RING, ("either", word_of((0,) * 40), word_of((1,) * 40)))
        with self.assertRaises(TooLarge):
            expression_automaton(ONE_PLACE, ("star", ("either", word_of((0,) * 11), word_of((0,) * 12))))

    def test_a_least_automaton_that_is_far_too_large_is_refused_soon(self):
        any_letter = ("either", A, B)
        behind = all_joined([A] + [any_letter] * 50)
        with self.assertRaises(TooLarge):
            expression_automaton(ONE_PLACE, ("join", ("star", any_letter), behind))
        with self.assertRaises(TooLarge):
            expression_automaton(ONE_PLACE, ("star", ("either", word_of((0,) * 57), word_of((0,) * 29))))

    def test_a_letter_some_steps_before_the_end(self):
        # Whether one of the last letters was 0: twice as many states for each letter more.
        any_letter = ("either", A, B)
        ending = all_joined([A] + [any_letter] * 4)
        found = expression_automaton(ONE_PLACE, ("join", ("star", any_letter), ending))
        self.assertEqual(len(found.rows), 32)
        with self.assertRaises(TooLarge):
            expression_automaton(ONE_PLACE, ("join", ("star", any_letter), ("join", ending, any_letter)))

    def test_which_error_comes_first(self):
        large, bad = word_of((0,) * 59), ("star", ("join", A, B))
        for kind in ("either", "join"):
            with self.assertRaises(TooLarge):
                expression_automaton(FREE, (kind, large, bad))
            with self.assertRaises(NotConnected):
                expression_automaton(FREE, (kind, bad, large))
        # The part of a star is looked at first, then whether it is connected, then the star.
        grid = ("join", word_of((0,) * 30), word_of((1,) * 30))
        with self.assertRaises(TooLarge):
            expression_automaton(FREE, ("star", grid))
        with self.assertRaises(NotConnected):
            expression_automaton(FREE, ("star", ("either", ("join", A, B), word_of((0,) * 40))))
        with self.assertRaises(NotConnected):
            expression_automaton(FREE, ("join", ("either", A, bad), ("join", large, large)))

    def test_deep_expressions(self):
        expression = A
        for _ in range(99):
            expression = ("star", expression)
        self.assertEqual(accepted(expression_automaton(SHARED, expression), 2), {(), (0,), (0, 0)})


class AutomatonExpressionTest(unittest.TestCase):
    def check(self, alphabet, automaton):
        expression = automaton_expression(alphabet, automaton)
        self.assertIsNone(difference(expression_automaton(alphabet, expression), automaton))
        self.assertLessEqual(depth_of(expression), 100)
        for part in repeated_parts(expression):
            self.assertIsNone(unconnected_word(alphabet, expression_automaton(alphabet, part)))
        self.assertEqual(automaton_expression(alphabet, automaton), expression)

    def chosen_states(self, alphabet, automaton):
        return len(mixture("and", automaton, least_words(alphabet)).rows)

    def test_sets_of_drawn_expressions(self):
        rng = random.Random(21)
        checked = 0
        for alphabet in ALPHABETS:
            for _ in range(60):
                try:
                    automaton = expression_automaton(alphabet, random_expression(rng, alphabet, 5))
                except (NotConnected, TooLarge):
                    continue
                if self.chosen_states(alphabet, automaton) <= 6:
                    self.check(alphabet, automaton)
                    checked += 1
                else:
                    with self.assertRaises(TooLarge):
                        automaton_expression(alphabet, automaton)
        self.assertGreater(checked, 200)

    def test_other_closed_sets(self):
        rng = random.Random(22)
        for alphabet in ALPHABETS:
            for _ in range(30):
                sizes = [rng.choice([1, 1, 2, 3]) for _ in range(alphabet.places)]
                automaton = closed_automaton(rng, alphabet, sizes)
                if self.chosen_states(alphabet, automaton) <= 6:
                    self.check(alphabet, automaton)

    def test_six_states_of_words_over_one_place(self):
        rng = random.Random(23)
        for letters in (1, 2, 3, 6):
            alphabet = Alphabet(1, [(0,)] * letters)
            for _ in range(10):
                rows = [[rng.randrange(6) for _ in range(letters)] for _ in range(6)]
                self.check(alphabet, Automaton(letters, 0, [1, 4], rows))

    def test_simple_sets(self):
        for alphabet in ALPHABETS:
            many = len(alphabet.letters)
            self.check(alphabet, Automaton(many, 0, [], [[0] * many]))
            self.check(alphabet, automaton_of_words(many, [()]))
            self.check(alphabet, Automaton(many, 0, [0], [[0] * many]) if many < 6 else automaton_of_words(many, [(0,)]))

    def test_errors_and_their_order(self):
        with self.assertRaises(NotClosed):
            automaton_expression(FREE, automaton_of_words(2, [(0, 1)]))
        # The word has five least beginnings and itself, and one state more for all others.
        with self.assertRaises(TooLarge):
            automaton_expression(FREE, all_orders_automaton(FREE, [(0, 0, 1, 1, 1)]))
        self.check(FREE, all_orders_automaton(FREE, [(0, 1, 1, 1)]))
        with self.assertRaises(NotClosed):
            automaton_expression(FREE, automaton_of_words(2, [(0, 1, 0, 1, 0, 1, 0)]))

    def test_words_of_drawn_sets(self):
        rng = random.Random(24)
        for alphabet in ALPHABETS:
            for _ in range(10):
                words = [random_word(rng, alphabet, rng.randint(0, 3)) for _ in range(2)]
                automaton = all_orders_automaton(alphabet, words)
                if self.chosen_states(alphabet, automaton) <= 6:
                    expression = automaton_expression(alphabet, automaton)
                    expected = {min(orders(alphabet, word)) for word in words}
                    self.assertEqual(words_of(alphabet, expression, 6), expected)
