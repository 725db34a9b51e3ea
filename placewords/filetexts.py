"""Alphabets and automata as texts."""

from placewords.alphabets import Alphabet
from placewords.automata import Automaton
from placewords.errors import InvalidAlphabet, InvalidAutomaton

DIGITS = "0123456789"
# A number of more digits is greater than all that a text of less than 10 ** 9 characters can have.
MOST_DIGITS = 9


def format_alphabet(alphabet):
    """Return the text of an alphabet."""
    letters = ["".join([str(place) for place in places]) for places in alphabet.letters]
    return "alphabet " + str(alphabet.places) + ": " + " ".join(letters) + "\n"


def format_automaton(automaton):
    """Return the text of an automaton."""
    lines = [_line("automaton", [automaton.letters, automaton.start])]
    lines.append(_line("finals", automaton.finals))
    lines.extend([_line("row", row) for row in automaton.rows])
    return "".join(lines)


def _line(word, numbers):
    return " ".join([word, *[str(number) for number in numbers]]) + "\n"


def parse_alphabet(text):
    """Return the alphabet that a text writes."""
    words = text.split()
    if len(words) < 2:
        raise InvalidAlphabet("this is not the text of an alphabet")
    letters = [tuple([_number(digit) for digit in word]) for word in words[2:]]
    alphabet = Alphabet(_number(words[1][:-1]), letters)
    # Whatever was passed over here, such as a space too many, is not in the text of the alphabet.
    if format_alphabet(alphabet) != text:
        raise InvalidAlphabet("this is not the text of an alphabet")
    return alphabet


def parse_automaton(text):
    """Return the automaton that a text writes."""
    lines = text.split("\n")
    rows = [[_number(word) for word in line.split(" ")[1:]] for line in lines]
    if len(rows) < 3 or len(rows[0]) != 2:
        raise InvalidAutomaton("this is not the text of an automaton")
    letters, start = rows[0]
    automaton = Automaton(letters, start, rows[1], rows[2:-1])
    if format_automaton(automaton) != text:
        raise InvalidAutomaton("this is not the text of an automaton")
    return automaton


def _number(word):
    # The number that the digits write, -1 if there are others or none, or too many of them.
    if not 1 <= len(word) <= MOST_DIGITS or any([digit not in DIGITS for digit in word]):
        return -1
    return int(word)
