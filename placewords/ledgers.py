"""Ledgers: how many events of each letter each place knows."""


class Ledger:
    """The numbers that each place has for each letter, while letters happen."""

    def __init__(self, alphabet):
        self.alphabet = alphabet
        self.rows = tuple([tuple([0] * len(alphabet.letters))] * alphabet.places)

    def happen(self, letter):
        """Let a letter happen: its places tell each other what they know."""
        places = self.alphabet.letters[letter]
        row = _met_row([self.rows[place] for place in places], letter)
        self.rows = tuple([row if at in places else old for at, old in enumerate(self.rows)])

    def known(self, place, letter):
        """Return the number of events of a letter that a place knows."""
        return self.rows[place][letter]


def _met_row(rows, letter):
    most = [max([row[other] for row in rows]) for other in range(len(rows[0]))]
    most[letter] += 1
    return tuple(most)


def gathered(alphabet, word):
    """Return the list of the tuples of what each place knows of all letters behind a word."""
    ledger = Ledger(alphabet)
    for letter in word:
        ledger.happen(letter)
    return list(ledger.rows)
