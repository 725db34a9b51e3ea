"""Learners, which find out a closed set by questions.

A learner has prefixes, words that lead to the states of its guess, and endings, words that tell
these states apart. The row of a word has for each ending whether the word followed by it is in the
set. No two prefixes have the same row, so they lead to different states of the least automaton of
the set. From a word on which an automaton of the rows is wrong comes one more ending; with it, some
prefix followed by a letter has a row that no prefix has, and so one more state is found."""

from placewords.automata import Automaton, accepts, least, state_after
from placewords.closure import closed_fault
from placewords.forms import least_form


class Learner:
    """The answers for least words, the prefixes and endings, the words that have rows, how many of
    these are complete, the word that is asked, and a word on which the automaton is wrong."""

    def __init__(self, alphabet):
        self.alphabet = alphabet
        self.answers = {}
        self.prefixes = ()
        self.endings = ((),)
        self.words = ((),)
        self.rows = {}
        self.complete = 0
        self.automaton = None
        self.wrong = None
        self.asked = self._next_question()

    def question(self):
        """Return the word that is asked next, or None if there is a guess."""
        return self.asked

    def answer(self, inside):
        """Take the answer whether the word that is asked is in the set."""
        self.answers[self.asked] = inside
        self.asked = self._next_question()

    def guess(self):
        """Return an automaton that agrees with all answers and corrections so far."""
        return least(self.automaton)

    def correct(self, word):
        """Take a word on which the guess is wrong."""
        self.answers[least_form(self.alphabet, word)] = not accepts(self.automaton, word)
        self.asked = self._next_question()

    def _next_question(self):
        # Goes on until the answer for some word is needed; None if the automaton is a guess.
        while True:
            if self.wrong is not None:
                asked = self._search_ending()
            else:
                asked = self._fill_rows()
                if asked is None:
                    self.automaton = self._automaton_of_rows()
                    asked = self._look_for_wrong()
                    if asked is None and self.wrong is None:
                        return None
            if asked is not None:
                return asked

    def _fill_rows(self):
        # Returns a word whose answer is needed, None if all rows are complete and are rows of
        # prefixes.
        while self.complete < len(self.words):
            word = self.words[self.complete]
            row = self.rows.get(word, ())
            for ending in self.endings[len(row):]:
                asked = least_form(self.alphabet, word + ending)
                if asked not in self.answers:
                    self.rows[word] = row
                    return asked
                row = (*row, self.answers[asked])
            self.rows[word] = row
            self.complete += 1
            if self.complete == len(self.words):
                self._add_prefix()
        return None

    def _add_prefix(self):
        # The first word with a row that no prefix has becomes a prefix.
        known = {self.rows[prefix]: True for prefix in self.prefixes}
        new = [word for word in self.words if self.rows[word] not in known]
        if len(new) > 0:
            self.prefixes = (*self.prefixes, new[0])
            self.words = (*self.words, *self._longer_words(new[0]))

    def _longer_words(self, word):
        return [(*word, letter) for letter in range(len(self.alphabet.letters))]

    def _automaton_of_rows(self):
        numbers = {self.rows[prefix]: number for number, prefix in enumerate(self.prefixes)}
        rows = [
            [numbers[self.rows[word]] for word in self._longer_words(prefix)]
            for prefix in self.prefixes
        ]
        # The first ending is the empty word.
        finals = [number for row, number in numbers.items() if row[0]]
        return Automaton(len(self.alphabet.letters), 0, finals, rows)

    def _look_for_wrong(self):
        # Keeps a word on which the automaton is wrong, if there is one; returns a word whose
        # answer is needed for it, or None.
        words = [
            word for word, inside in self.answers.items() if accepts(self.automaton, word) != inside
        ]
        if len(words) > 0:
            self.wrong = min(words, key=len)
            return None
        fault = closed_fault(self.alphabet, self.automaton)
        if fault is None:
            return None
        asked = least_form(self.alphabet, fault[0])
        if asked not in self.answers:
            return asked
        # The automaton accepts the first word of a fault only, and the set has both or none.
        self.wrong = fault[1] if self.answers[asked] else fault[0]
        return None

    def _search_ending(self):
        # Goes halfway between a beginning that can be replaced by its prefix and one that cannot,
        # until they are neighbours. Returns a word whose answer is needed, None at the end.
        low = 0
        high = len(self.wrong)
        truth = self.answers[least_form(self.alphabet, self.wrong)]
        while high - low > 1:
            middle = (low + high) // 2
            prefix = self.prefixes[state_after(self.automaton, self.wrong[:middle])]
            asked = least_form(self.alphabet, prefix + self.wrong[middle:])
            if asked not in self.answers:
                return asked
            if self.answers[asked] == truth:
                low = middle
            else:
                high = middle
        self.endings = (*self.endings, least_form(self.alphabet, self.wrong[high:]))
        self.complete = 0
        self.wrong = None
        return None
