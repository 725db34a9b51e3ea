"""News: local states from which places tell who knows the newer event of a place."""

from placewords.gossip import compare_tables, empty_table, met_table


class News:
    """Local states for the places of an alphabet; each is the table of labels of a place."""

    def __init__(self, alphabet):
        self.alphabet = alphabet

    def start(self):
        """Return the local states of all places at the beginning."""
        return tuple([empty_table(self.alphabet.places)] * self.alphabet.places)

    def meet(self, letter, states):
        """Return the new local states of the places of a letter that happens."""
        return tuple([met_table(self.alphabet, letter, states)] * len(states))

    def compare(self, first, second, place):
        """Return 0 if two local states know the same newest event of a place, 1 if the first one
        knows a newer one, -1 if the second one does."""
        return compare_tables(self.alphabet.places, first, second, place)
