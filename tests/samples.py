"""Alphabets, words and automata for the tests, and slow but plain ways to find what is promised."""

import itertools

from placewords.alphabets import Alphabet
from placewords.automata import Automaton, accepts

FREE = Alphabet(2, [(0,), (1,)])
SHARED = Alphabet(2, [(0,), (1,), (0, 1)])
CHAIN = Alphabet(3, [(0, 1), (1, 2), (2,)])
RING = Alphabet(4, [(0, 1), (1, 2), (2, 3), (0, 3)])
ONE_PLACE = Alphabet(1, [(0,), (0,)])
SINGLE = Alphabet(1, [(0,)])
MIXED = Alphabet(4, [(0,), (1, 2), (0, 1, 2, 3), (3,), (2,), (0, 3)])
APART = Alphabet(4, [(0,), (1,), (2,), (3,)])
ALPHABETS = [FREE, SHARED, CHAIN, RING, ONE_PLACE, SINGLE, MIXED, APART]


def words_up_to(letters, length):
    """All words of at most this length, the shorter ones first, in ascending order."""
    for size in range(length + 1):
        yield from itertools.product(range(letters), repeat=size)


def short_words(alphabet, most=800):
    """About as many words as are asked for, all up to some length."""
    letters = len(alphabet.letters)
    length = 0
    while sum(letters ** size for size in range(length + 2)) <= most and length < 7:
        length += 1
    return list(words_up_to(letters, length))


def apart(alphabet, a, b):
    return not set(alphabet.letters[a]) & set(alphabet.letters[b])


def one_swap(alphabet, word):
    """All words after one swap."""
    for i in range(len(word) - 1):
        if apart(alphabet, word[i], word[i + 1]):
            yield word[:i] + (word[i + 1], word[i]) + word[i + 2:]


def orders(alphabet, word):
    """All equivalent words with the least number of swaps that leads to each."""
    found = {tuple(word): 0}
    front = [tuple(word)]
    while front:
        following = []
        for one in front:
            for other in one_swap(alphabet, one):
                if other not in found:
                    found[other] = found[one] + 1
                    following.append(other)
        front = following
    return found


def below_pairs(alphabet, word):
    """All pairs (i, j) such that event i is below event j, step by step from those directly before."""
    size = len(word)
    below = {(i, i) for i in range(size)}
    for j in range(size):
        for i in range(j):
            if not apart(alphabet, word[i], word[j]):
                below |= {(h, j) for h in range(i + 1) if (h, i) in below}
    return below


def past(alphabet, word, place):
    """The set of the events of the view of a place."""
    below = below_pairs(alphabet, word)
    at_place = [j for j, letter in enumerate(word) if place in alphabet.letters[letter]]
    return {i for i in range(len(word)) for j in at_place if (i, j) in below}


def newest_of(alphabet, word, events, place):
    return max((e for e in events if place in alphabet.letters[word[e]]), default=-1)


def random_word(rng, alphabet, length):
    weights = [rng.random() ** 2 + 0.02 for _ in alphabet.letters]
    return tuple(rng.choices(range(len(alphabet.letters)), weights, k=length))


def random_automaton(rng, letters, states):
    finals = [state for state in range(states) if rng.random() < 0.4]
    rows = [[rng.randrange(states) for _ in range(letters)] for _ in range(states)]
    return Automaton(letters, rng.randrange(states), finals, rows)


def closed_automaton(rng, alphabet, sizes):
    """An automaton of the combinations of states of all places, in which each letter changes the
    states of its places alone; so its set is closed."""
    combinations = list(itertools.product(*[range(size) for size in sizes]))
    number = {combination: index for index, combination in enumerate(combinations)}
    rows = [[0] * len(alphabet.letters) for _ in combinations]
    for letter, places in enumerate(alphabet.letters):
        parts = list(itertools.product(*[range(sizes[place]) for place in places]))
        table = dict(zip(parts, rng.sample(parts, len(parts))))
        for combination in combinations:
            changed = list(combination)
            for place, state in zip(places, table[tuple(combination[place] for place in places)]):
                changed[place] = state
            rows[number[combination]][letter] = number[tuple(changed)]
    finals = [state for state in range(len(rows)) if rng.random() < 0.4]
    return Automaton(len(alphabet.letters), 0, finals, rows)


def automaton_of_words(letters, words):
    """An automaton of just these words: a tree of their beginnings."""
    beginnings = sorted({tuple(word[:size]) for word in words for size in range(len(word) + 1)} | {()})
    number = {beginning: index for index, beginning in enumerate(beginnings)}
    sink = len(beginnings)
    rows = [
        [number.get(beginning + (letter,), sink) for letter in range(letters)] for beginning in beginnings
    ]
    rows.append([sink] * letters)
    return Automaton(letters, number[()], sorted({number[tuple(word)] for word in words}), rows)


def all_orders_automaton(alphabet, words):
    """An automaton of all words that are equivalent to one of the words."""
    return automaton_of_words(len(alphabet.letters), {order for word in words for order in orders(alphabet, word)})


def accepted(automaton, length):
    """The set of the accepted words of at most this length."""
    return {word for word in words_up_to(automaton.letters, length) if accepts(automaton, word)}


def is_numbered_and_least(automaton):
    """Tell whether no two states accept the same, all are reached, and are numbered as reached."""
    seen = [0]
    for state in seen:
        for target in automaton.rows[state]:
            if target not in seen:
                seen.append(target)
    many = len(automaton.rows)
    if automaton.start != 0 or seen != list(range(many)):
        return False
    different = {(p, q) for p in range(many) for q in range(many)
                 if (p in automaton.finals) != (q in automaton.finals)}
    while True:
        more = {
            (p, q) for p in range(many) for q in range(many)
            if any((a, b) in different for a, b in zip(automaton.rows[p], automaton.rows[q]))
        } - different
        if not more:
            return len(different) == many * (many - 1)
        different |= more


def plain_queues(alphabet, word):
    """The words of all places."""
    return [
        tuple(letter for letter in word if place in alphabet.letters[letter]) for place in range(alphabet.places)
    ]


def plain_ready(alphabet, queues):
    """The letters that are first in the queue of each of their places."""
    return [
        letter for letter, places in enumerate(alphabet.letters)
        if all(queues[place][:1] == [letter] for place in places)
    ]


def happen(alphabet, machines, states, letter):
    """Hand a letter to its places, whose local states in the list are replaced."""
    places = alphabet.letters[letter]
    following = machines.meet(letter, tuple(states[place] for place in places))
    assert type(following) is tuple and len(following) == len(places)
    for place, state in zip(places, following):
        states[place] = state
