"""Clocks of events, and logs of places."""

from placewords.ledgers import Ledger
from placewords.players import word_of


def clocks(alphabet, word):
    """Return the list of the clocks of all events of a word."""
    ledger = Ledger(alphabet)
    found = []
    for letter in word:
        ledger.happen(letter)
        found.append(ledger.rows[alphabet.letters[letter][0]])
    return found


def clock_below(first, second):
    """Tell whether each number of the first clock is at most that of the second one."""
    for one, other in zip(first, second):
        if one > other:
            return False
    return True


def logs_of(alphabet, word):
    """Return for each place the list of the pairs of the letter and the clock of its events."""
    pairs = list(zip(word, clocks(alphabet, word)))
    return [
        [pair for pair in pairs if place in alphabet.letters[pair[0]]]
        for place in range(alphabet.places)
    ]


def word_of_logs(alphabet, logs):
    """Return the least word for which the logs are true, or None if they are false."""
    word = word_of(alphabet, [[letter for letter, _ in log] for log in logs])
    if word is None:
        return None
    told = [[(letter, tuple(clock)) for letter, clock in log] for log in logs]
    return word if told == logs_of(alphabet, word) else None
