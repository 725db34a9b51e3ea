"""Automata of searches: each state is the tuple of all choices that are left behind a word."""

from placewords.automata import Automaton, least
from placewords.errors import TooLarge

SAMPLE = 200
MOST_ENDINGS = 80
MOST_CHOICES = 2000


class Subsets:
    """The tuples of choices that were found so far, with their numbers."""

    def __init__(self, search, letters):
        self.search = search
        self.letters = letters
        self.found = []
        self.numbers = {}
        self.steps = []
        self.number_of(search.first_choices())

    def number_of(self, choices):
        """Return the number of a tuple of choices, a new one if it was not found before."""
        if choices not in self.numbers:
            self.numbers[choices] = len(self.found)
            self.found.append(choices)
            self.steps.append({})
        return self.numbers[choices]

    def after(self, number, letter):
        """Return the number of the choices behind one more letter."""
        steps = self.steps[number]
        if letter not in steps:
            steps[letter] = self.number_of(self.search.next_choices(self.found[number], letter))
        return steps[letter]

    def is_accepted(self, number, word):
        """Tell whether the word leads from the numbered choices to the end of a word."""
        for letter in word:
            number = self.after(number, letter)
        return self.search.is_end(self.found[number])


def searched(search, letters, limit):
    """Return the least automaton of the words that a search accepts. If the limit is not None and
    the least automaton has more states, TooLarge is raised."""
    subsets = Subsets(search, letters)
    rows = []
    checked_at = 4 * limit if limit is not None else 0
    while len(rows) < len(subsets.found):
        rows.append([subsets.after(len(rows), letter) for letter in range(letters)])
        # The tuples of choices can be far more than the limit, so it is looked at ahead of them.
        if limit is not None and len(rows) > checked_at:
            checked_at = 4 * len(rows)
            if _are_more(subsets, limit):
                raise TooLarge("the least automaton has too many states")
    ends = [number for number in range(len(rows)) if search.is_end(subsets.found[number])]
    small = least(Automaton(letters, 0, ends, rows))
    if limit is not None and len(small.rows) > limit:
        raise TooLarge("the least automaton has too many states")
    return small


def _are_more(subsets, limit):
    # Tuples of choices that differ in what they accept belong to different states of the least
    # automaton. Only some words are tried, so False tells nothing.
    many = min(len(subsets.found), SAMPLE)
    classes = [0] * many
    for word in _ending_words(subsets):
        kinds = {}
        following = []
        for number in range(many):
            kind = (classes[number], subsets.is_accepted(number, word))
            following.append(kinds.setdefault(kind, len(kinds)))
        classes = following
        if len(kinds) > limit:
            return True
    return False


def _ending_words(subsets):
    # For each single choice, taken alone, a shortest word that it accepts.
    search = subsets.search
    choices = _single_choices(subsets)
    words = {choice: () for choice in choices if search.is_end((choice,))}
    found = [()]
    changed = True
    while changed and len(found) < MOST_ENDINGS:
        changed = False
        longer = {}
        for choice in choices:
            if choice not in words:
                for letter, behind in choices[choice]:
                    if behind in words and choice not in longer:
                        longer[choice] = (letter, *words[behind])
        for choice, word in longer.items():
            words[choice] = word
            changed = True
            if word not in found:
                found.append(word)
    return found


def _single_choices(subsets):
    # The steps (letter, choice) of each choice alone.
    steps = {}
    queue = []
    for choices in subsets.found[:SAMPLE]:
        for choice in choices:
            if choice not in steps:
                steps[choice] = []
                queue.append(choice)
    at = 0
    while at < len(queue):
        alone = queue[at]
        for letter in range(subsets.letters):
            for behind in subsets.search.next_choices((alone,), letter):
                steps[alone].append((letter, behind))
                if behind not in steps and len(steps) < MOST_CHOICES:
                    steps[behind] = []
                    queue.append(behind)
        at += 1
    return steps
