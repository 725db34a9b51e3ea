import random
import unittest

from placewords.errors import ExpressionSyntaxError
from placewords.texts import format_expression, parse_expression

from tests.samples import MIXED
from tests.test_expressions import random_expression

A, B, C, EMPTY, NONE = ("letter", 0), ("letter", 1), ("letter", 2), ("empty",), ("none",)

TEXTS = {
    "none": NONE,
    "empty": EMPTY,
    "5": ("letter", 5),
    "0 + 1": ("either", A, B),
    "0 . 1": ("join", A, B),
    "0*": ("star", A),
    "0**": ("star", ("star", A)),
    "none* . empty*": ("join", ("star", NONE), ("star", EMPTY)),
    "0 + 1 + 2": ("either", ("either", A, B), C),
    "0 + (1 + 2)": ("either", A, ("either", B, C)),
    "0 . 1 . 2": ("join", ("join", A, B), C),
    "0 . (1 . 2)": ("join", A, ("join", B, C)),
    "0 + 1 . 2": ("either", A, ("join", B, C)),
    "0 . 1 + 2": ("either", ("join", A, B), C),
    "(0 + 1) . 2": ("join", ("either", A, B), C),
    "0 . (1 + 2)": ("join", A, ("either", B, C)),
    "(0 + 1) . (1 + 2)": ("join", ("either", A, B), ("either", B, C)),
    "(0 + 1)*": ("star", ("either", A, B)),
    "(0 . 1)*": ("star", ("join", A, B)),
    "(0 . 1)* . 2*": ("join", ("star", ("join", A, B)), ("star", C)),
    "((0 + 1)* . 2)*": ("star", ("join", ("star", ("either", A, B)), C)),
    "0* + (1 + (2 + 0))": ("either", ("star", A), ("either", B, ("either", C, A))),
    "0 . 1 . (2 . 0 . 1)": ("join", ("join", A, B), ("join", ("join", C, A), B)),
}


class TextsTest(unittest.TestCase):
    def test_the_examples(self):
        expression = ("star", ("join", ("letter", 0), ("either", ("letter", 1), ("empty",))))
        self.assertEqual(format_expression(expression), "(0 . (1 + empty))*")
        self.fails("0 . (1 +", 8)

    def test_texts_and_expressions(self):
        for text, expression in TEXTS.items():
            self.assertEqual(format_expression(expression), text)
            self.assertEqual(parse_expression(text), expression)

    def test_drawn_expressions(self):
        rng = random.Random(25)
        for _ in range(300):
            expression = random_expression(rng, MIXED, 6)
            text = format_expression(expression)
            self.assertEqual(parse_expression(text), expression)
            self.assertEqual(parse_expression(text.replace(" ", "")), expression)
            spaced = "".join(c + "  " if c in "+.*()" else c for c in "   " + text)
            self.assertEqual(parse_expression(spaced), expression)

    def test_no_parentheses_can_be_left_out(self):
        rng = random.Random(26)
        for _ in range(200):
            expression = random_expression(rng, MIXED, 5)
            text = format_expression(expression)
            for begin, end in self.parentheses(text):
                shorter = text[:begin] + text[begin + 1:end] + text[end + 1:]
                self.assertNotEqual(parse_expression(shorter), expression)

    def parentheses(self, text):
        begun = []
        for at, c in enumerate(text):
            if c == "(":
                begun.append(at)
            if c == ")":
                yield begun.pop(), at

    def test_spaces_and_parentheses_too_many(self):
        self.assertEqual(parse_expression("  0+1.2 *  "), ("either", A, ("join", B, ("star", C))))
        self.assertEqual(parse_expression("((0))"), A)
        self.assertEqual(parse_expression("( ( 0 ) + 1 )*"), ("star", ("either", A, B)))
        self.assertEqual(parse_expression("none+empty"), ("either", NONE, EMPTY))
        self.assertEqual(parse_expression("0 * *"), ("star", ("star", A)))

    def test_long_texts(self):
        self.assertEqual(parse_expression("(" * 30 + "0" + ")" * 30), A)
        self.assertEqual(format_expression(parse_expression("0 . " * 74 + "1")), "0 . " * 74 + "1")
        self.assertEqual(format_expression(parse_expression("0" + "*" * 99)), "0" + "*" * 99)

    def fails(self, text, position):
        with self.assertRaises(ExpressionSyntaxError) as caught:
            parse_expression(text)
        self.assertEqual(caught.exception.position, position, text)

    def test_wrong_tokens(self):
        for text, position in (
            ("+ 0", 0), ("*", 0), (")", 0), ("  . 0", 2), ("0 1", 2), ("01", 1), ("0 + + 1", 4), ("0 . * 1", 4),
            ("0 (1)", 2), ("(0)(1)", 3), ("()", 1), ("0 + )", 4), ("(0 + 1))", 7), ("0)", 1), ("0 none", 2),
            ("none empty", 5), ("nonenone", 4), ("0 + (1 . )", 9), ("(0 1", 3), ("0* 1", 3), ("empty0", 5),
        ):
            self.fails(text, position)

    def test_characters_that_begin_no_token(self):
        for text, position in (
            ("x", 0), ("0 x", 2), ("0 + x", 4), ("0 + -1", 4), ("non", 0), ("0 + emp ty", 4), ("None", 0), ("0\n", 1),
            ("0\t+ 1", 1), ("nonex", 4), ("0 & 1", 2), ("(0 + 1]", 6), ("0 1 x", 2), ("0,1", 1), ("n", 0), ("e", 0),
        ):
            self.fails(text, position)

    def test_texts_that_end_too_early(self):
        for text in ("", "   ", "(", "0 +", "0 + ", "0 .", "(0", "(0 + 1  ", "((0)", "(0 . (1 + 2)*"):
            self.fails(text, len(text))
