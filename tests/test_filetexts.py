import random
import unittest

from placewords.alphabets import Alphabet
from placewords.automata import Automaton
from placewords.errors import InvalidAlphabet, InvalidAutomaton
from placewords.filetexts import format_alphabet, format_automaton, parse_alphabet, parse_automaton

from tests.samples import ALPHABETS, MIXED, SHARED, SINGLE, random_automaton

LOOP = Automaton(2, 0, [1], [[1, 0], [1, 1]])
LOOP_TEXT = "automaton 2 0\nfinals 1\nrow 1 0\nrow 1 1\n"
ODD_CHARACTERS = " \n0123456789:-+_.,;x\t\r\x0b\x0c\x00\x1c\x85\xa0\u0661\u00b2\uff11\u2028"


def plain_alphabet(text):
    """The alphabet of a text, token by token, or None."""
    start = "alphabet "
    if not (text.startswith(start) and text.endswith("\n") and text.count("\n") == 1):
        return None
    places, sign, letters = text[len(start):-1].partition(": ")
    rows = letters.split(" ")
    if not sign or places not in list("1234") or not 1 <= len(rows) <= 6:
        return None
    for row in rows:
        digits = list(row)
        if not digits or digits != sorted(set(digits)) or not set(digits) <= set("0123"[:int(places)]):
            return None
    return int(places), tuple(tuple(int(digit) for digit in row) for row in rows)


def plain_number(token):
    good = token != "" and set(token) <= set("0123456789") and (token == "0" or token[0] != "0")
    return int(token) if good else -1


def plain_automaton(text):
    """The parts of the automaton of a text, line by line, or None."""
    if not text.endswith("\n"):
        return None
    lines = [line.split(" ") for line in text[:-1].split("\n")]
    words = [line[0] for line in lines]
    numbers = [[plain_number(token) for token in line[1:]] for line in lines]
    if words[:2] != ["automaton", "finals"] or set(words[2:]) != {"row"} or len(numbers[0]) != 2:
        return None
    (letters, start), finals, rows = numbers[0], numbers[1], numbers[2:]
    states = range(len(rows))
    good = letters >= 1 and start in states and finals == sorted(set(finals)) and set(finals) <= set(states)
    if not good or any(len(row) != letters or not set(row) <= set(states) for row in rows):
        return None
    return letters, start, tuple(finals), tuple(tuple(row) for row in rows)


def damaged(rng, text):
    """A text with a few characters taken away, put in, replaced, exchanged or cut off."""
    for _ in range(rng.randint(1, 2)):
        at = rng.randint(0, len(text))
        kind = rng.randrange(5)
        some = rng.choice(ODD_CHARACTERS if rng.random() < 0.6 else text or " ")
        if kind == 0:
            text = text[:at] + text[at + 1:]
        elif kind == 1:
            text = text[:at] + some + text[at:]
        elif kind == 2:
            text = text[:at] + some + text[at + 1:]
        elif kind == 3:
            text = text[:at] if rng.random() < 0.5 else text[at:]
        else:
            text = text[:at] + text[at + 1:at + 2] + text[at:at + 1] + text[at + 2:]
    return text


class AlphabetTextTest(unittest.TestCase):
    def refused(self, text):
        with self.assertRaises(InvalidAlphabet):
            parse_alphabet(text)

    def test_the_example(self):
        self.assertEqual(format_alphabet(SHARED), "alphabet 2: 0 1 01\n")
        found = parse_alphabet("alphabet 2: 0 1 01\n")
        self.assertIs(type(found), Alphabet)
        self.assertEqual((found.places, found.letters), (2, ((0,), (1,), (0, 1))))

    def test_there_and_back(self):
        rng = random.Random(130)
        drawn = []
        for _ in range(60):
            places = rng.randint(1, 4)
            letters = [sorted(rng.sample(range(places), rng.randint(1, places))) for _ in range(rng.randint(1, 6))]
            drawn.append(Alphabet(places, letters))
        for alphabet in ALPHABETS + drawn + [Alphabet(4, [(0, 1, 2, 3)] * 6), Alphabet(4, [(3,)])]:
            text = format_alphabet(alphabet)
            self.assertEqual(plain_alphabet(text), (alphabet.places, alphabet.letters))
            found = parse_alphabet(text)
            self.assertEqual((found.places, found.letters), (alphabet.places, alphabet.letters))
        self.assertEqual(format_alphabet(SINGLE), "alphabet 1: 0\n")
        self.assertEqual(format_alphabet(MIXED), "alphabet 4: 0 12 0123 3 2 03\n")

    def test_texts_that_are_refused(self):
        for text in (
            "", "\n", " ", "alphabet", "alphabet\n", "alphabet 2\n", "alphabet 2:\n", "alphabet 2: \n", "alphabet 2: 0",
            "alphabet 2: 0\n\n", "\nalphabet 2: 0\n", "alphabet 2: 0 \n", " alphabet 2: 0\n", "alphabet  2: 0\n",
            "alphabet 2:  0\n", "alphabet 2: 0  1\n", "alphabet 2:0\n", "alphabet 2 : 0\n", "alphabet 2 0\n",
            "alphabet2: 0\n", "Alphabet 2: 0\n", "alphabet 2: 0\r\n", "alphabet 2: 0\t1\n", "alphabet 2:\n0\n",
            "alphabet 02: 0\n", "alphabet +2: 0\n", "alphabet -2: 0\n", "alphabet 2.: 0\n", "alphabet : 0\n",
            "alphabet 0: 0\n", "alphabet 5: 0\n", "alphabet 12: 0\n", "alphabet 2: 2\n", "alphabet 2: 02\n",
            "alphabet 2: 10\n", "alphabet 2: 00\n", "alphabet 2: 0,1\n", "alphabet 2: -1\n", "alphabet 2: +1\n",
            "alphabet 2: 0 x\n", "alphabet 2: 0 0 0 0 0 0 0\n", "alphabet 2: \u0660\n", "alphabet \u0662: 0\n",
            "alphabet 2: \u00b2\n", "alphabet 2: 0\u20281\n", "alphabet 2: 0\x0b\n", "alphabet 2: 0\nalphabet 2: 0\n",
            "alphabet 2: 0: 1\n", "alphabet " + "1" * 4400 + ": 0\n", "alphabet 2: " + "0" * 4400 + "\n",
            "alphabet 2: " + "0 " * 1990 + "0\n", "alphabets 2: 0\n", "2: 0\n", ": 0\n", "alphabet 2:: 0\n",
        ):
            self.refused(text)
        self.refused(LOOP_TEXT)

    def test_damaged_texts(self):
        rng = random.Random(131)
        refused = 0
        for alphabet in ALPHABETS:
            for _ in range(400):
                text = damaged(rng, format_alphabet(alphabet))
                expected = plain_alphabet(text)
                if expected is None:
                    refused += 1
                    self.refused(text)
                else:
                    found = parse_alphabet(text)
                    self.assertEqual((found.places, found.letters), expected)
                    self.assertEqual(format_alphabet(found), text)
        self.assertGreater(refused, 2000)


class AutomatonTextTest(unittest.TestCase):
    def refused(self, text):
        with self.assertRaises(InvalidAutomaton):
            parse_automaton(text)

    def test_the_example(self):
        self.assertEqual(format_automaton(LOOP), LOOP_TEXT)
        found = parse_automaton(LOOP_TEXT)
        self.assertIs(type(found), Automaton)
        self.assertEqual((found.letters, found.start, found.finals, found.rows), (2, 0, (1,), ((1, 0), (1, 1))))

    def test_there_and_back(self):
        rng = random.Random(132)
        drawn = [random_automaton(rng, rng.randint(1, 6), rng.randint(1, 12)) for _ in range(60)]
        for automaton in drawn + [random_automaton(rng, 2, 400), random_automaton(rng, 30, 3)]:
            text = format_automaton(automaton)
            parts = (automaton.letters, automaton.start, automaton.finals, automaton.rows)
            self.assertEqual(plain_automaton(text), parts)
            found = parse_automaton(text)
            self.assertEqual((found.letters, found.start, found.finals, found.rows), parts)

    def test_no_final_states(self):
        text = "automaton 1 0\nfinals\nrow 0\n"
        self.assertEqual(format_automaton(Automaton(1, 0, [], [[0]])), text)
        self.assertEqual(parse_automaton(text).finals, ())
        self.refused("automaton 1 0\nfinals \nrow 0\n")
        self.refused("automaton 1 0\nrow 0\n")

    def test_large_numbers(self):
        rows = [[(state + 1) % 1200] for state in range(1200)]
        automaton = Automaton(1, 1199, [0, 9, 10, 99, 100, 999, 1000, 1199], rows)
        text = format_automaton(automaton)
        self.assertTrue(text.startswith("automaton 1 1199\nfinals 0 9 10 99 100 999 1000 1199\nrow 1\nrow 2\n"))
        found = parse_automaton(text)
        self.assertEqual((found.start, found.finals, found.rows), (1199, automaton.finals, automaton.rows))
        self.refused(text.replace("1199", "1200", 1))
        self.refused(text.replace("row 10\n", "row 010\n"))

    def test_texts_that_are_refused(self):
        for text in (
            "", "\n", "automaton 2 0\n", "automaton 2 0\nfinals 1\n", LOOP_TEXT[:-1], LOOP_TEXT + "\n", "\n" + LOOP_TEXT,
            " " + LOOP_TEXT, LOOP_TEXT + " ", LOOP_TEXT.replace("\n", " \n", 1), LOOP_TEXT.replace("\n", "\n\n", 1),
            LOOP_TEXT.replace("\n", "\r\n"), LOOP_TEXT.replace(" ", "  ", 1), LOOP_TEXT.replace(" ", "\t", 1),
            LOOP_TEXT.replace("2 0", "2"), LOOP_TEXT.replace("2 0", "2 0 0"), LOOP_TEXT.replace("2 0", "2 2"),
            LOOP_TEXT.replace("2 0", "2 -1"), LOOP_TEXT.replace("2 0", "2 +0"), LOOP_TEXT.replace("2 0", "2 00"),
            LOOP_TEXT.replace("2 0", "02 0"), LOOP_TEXT.replace("2 0", "3 0"), LOOP_TEXT.replace("2 0", "1 0"),
            LOOP_TEXT.replace("2 0", "0 0"), LOOP_TEXT.replace("2 0", "-2 0"), LOOP_TEXT.replace("2 0", "2_0 0"),
            LOOP_TEXT.replace("finals 1", "finals 2"), LOOP_TEXT.replace("finals 1", "finals 1 0"),
            LOOP_TEXT.replace("finals 1", "finals 1 1"), LOOP_TEXT.replace("finals 1", "finals -1"),
            LOOP_TEXT.replace("finals 1", "final 1"), LOOP_TEXT.replace("finals 1", "finals 01"),
            LOOP_TEXT.replace("finals 1", "finals1"), LOOP_TEXT.replace("finals 1", "finals \u0661"),
            LOOP_TEXT.replace("row 1 1", "row 1 2"), LOOP_TEXT.replace("row 1 1", "row 1"),
            LOOP_TEXT.replace("row 1 1", "row 1 1 1"), LOOP_TEXT.replace("row 1 1", "row"),
            LOOP_TEXT.replace("row 1 1", "Row 1 1"), LOOP_TEXT.replace("row 1 1", "row 1 \u00b9"),
            LOOP_TEXT.replace("row 1 1", "row 1 1 "), LOOP_TEXT.replace("row 1 1", "row 1,1"),
            LOOP_TEXT.replace("row 1 1\n", "row 1 1\nrow 1 1\nfinals\n"), LOOP_TEXT + LOOP_TEXT,
            LOOP_TEXT.replace("2 0", "2 " + "1" * 4400), LOOP_TEXT.replace("2 0", "9" * 4400 + " 0"),
            LOOP_TEXT.replace("automaton ", ""), LOOP_TEXT.replace("automaton", "alphabet"),
        ):
            self.refused(text)
        self.refused("alphabet 2: 0 1 01\n")

    def test_lines_in_another_order(self):
        lines = LOOP_TEXT.splitlines(keepends=True)
        self.refused(lines[1] + lines[0] + lines[2] + lines[3])
        self.refused(lines[0] + lines[2] + lines[1] + lines[3])
        self.refused(lines[0] + lines[2] + lines[3])
        self.refused(lines[1] + lines[2] + lines[3])

    def test_damaged_texts(self):
        rng = random.Random(133)
        refused = 0
        for _ in range(150):
            whole = format_automaton(random_automaton(rng, rng.randint(1, 3), rng.randint(1, 12)))
            for _ in range(20):
                text = damaged(rng, whole)
                expected = plain_automaton(text)
                if expected is None:
                    refused += 1
                    self.refused(text)
                else:
                    found = parse_automaton(text)
                    self.assertEqual((found.letters, found.start, found.finals, found.rows), expected)
                    self.assertEqual(format_automaton(found), text)
        self.assertGreater(refused, 1500)
