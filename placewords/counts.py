"""The number of words of a length, where equivalent words count as one."""

from placewords.alphabets import independent
from placewords.automata import final_marks, least
from placewords.closure import is_closed
from placewords.errors import NotClosed


def _groups(alphabet):
    # All sets of letters that are independent of one another, as tuples in ascending order.
    found = [()]
    for letter in range(len(alphabet.letters)):
        longer = [
            (*group, letter)
            for group in found
            if all([independent(alphabet, letter, other) for other in group])
        ]
        found.extend(longer)
    return found


def group_counts(alphabet):
    """Return the list of the numbers of groups with 0, 1, .. letters."""
    sizes = [len(group) for group in _groups(alphabet)]
    return [sizes.count(size) for size in range(max(sizes) + 1)]


def word_count(alphabet, length):
    """Return the number of words of a length up to order."""
    counts = group_counts(alphabet)
    found = [1]
    while len(found) <= length:
        total = 0
        for size in range(1, min(len(counts), len(found) + 1)):
            total += _sign(size) * counts[size] * found[len(found) - size]
        found.append(total)
    return found[length]


def _sign(size):
    # A word that can end with each letter of a group is counted once for each of these letters, so
    # that groups are taken away and added in turn.
    return 1 if size % 2 == 1 else -1


def accepted_count(alphabet, automaton, length):
    """Return the number of words of a length up to order that an automaton accepts."""
    if not is_closed(alphabet, automaton):
        raise NotClosed("the set is not closed")
    small = least(automaton)
    groups = [group for group in _groups(alphabet) if len(group) > 0]
    leads = [(len(group), _targets(small, group)) for group in groups]
    # For each length the numbers of words that lead to each state.
    found = [[1 if state == small.start else 0 for state in range(len(small.rows))]]
    while len(found) <= length:
        totals = [0] * len(small.rows)
        for size, targets in leads:
            if size <= len(found):
                for count, target in zip(found[len(found) - size], targets):
                    totals[target] += _sign(size) * count
        found.append(totals)
    marks = final_marks(small)
    return sum([count for state, count in enumerate(found[length]) if marks[state]])


def _targets(automaton, word):
    # For each state the one behind the word.
    targets = list(range(len(automaton.rows)))
    for letter in word:
        targets = [automaton.rows[state][letter] for state in targets]
    return targets
