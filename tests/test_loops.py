import itertools
import random
import unittest

from placewords.alphabets import Alphabet
from placewords.loops import same_loop

from tests.samples import ALPHABETS, CHAIN, FREE, MIXED, RING, SHARED, SINGLE, one_swap, plain_queues, random_word

LONG = 80


def plain_same(alphabet, first, second):
    """Compare a long part of the words of all places, with their ends if they have any."""
    rows = []
    for head, turn in (first, second):
        heads, turns = plain_queues(alphabet, head), plain_queues(alphabet, turn)
        rows.append([
            (bool(own), (begun + own * LONG)[:LONG] if own else begun) for begun, own in zip(heads, turns)
        ])
    return rows[0] == rows[1]


class LoopsTest(unittest.TestCase):
    def check(self, alphabet, first, second, expected=None):
        found = same_loop(alphabet, first, second)
        self.assertIs(type(found), bool)
        self.assertIs(same_loop(alphabet, second, first), found)
        self.assertIs(found, plain_same(alphabet, first, second), (alphabet.letters, first, second))
        if expected is not None:
            self.assertIs(found, expected)
        return found

    def test_the_example(self):
        self.assertIs(same_loop(Alphabet(2, [(0,), (1,)]), ((0,), (1, 0, 0)), ((1, 0), (0, 1))), True)

    def test_all_short_loops(self):
        for alphabet, letters in ((FREE, 2), (SHARED, 3)):
            words = [word for size in range(3) for word in itertools.product(range(letters), repeat=size)]
            loops = list(itertools.product(words, words))
            same = [self.check(alphabet, first, second) for first in loops for second in loops]
            self.assertGreater(sum(same), len(loops))

    def test_powers_of_one_turn(self):
        for alphabet in (SHARED, CHAIN, RING):
            turn = (0, 1, 2, 1)
            for one in range(1, 5):
                for other in range(1, 5):
                    self.check(alphabet, ((), turn * one), ((), turn * other), True)
                    self.check(alphabet, ((), turn * one), (turn, turn * other), True)
                    self.check(alphabet, ((), turn * one), ((0,), (turn * other)[1:] + (0,)), True)
                    self.check(alphabet, (turn * one, turn * other), ((), turn), True)
                    self.check(alphabet, ((), turn * one), ((), turn * other + (0,)), False)
        self.check(SINGLE, ((0,), (0, 0)), ((), (0, 0, 0)), True)

    def test_heads_that_take_over_a_part_of_the_turn(self):
        rng = random.Random(106)
        for alphabet in ALPHABETS:
            for _ in range(20):
                head, turn = random_word(rng, alphabet, rng.randint(0, 4)), random_word(rng, alphabet, rng.randint(1, 5))
                size = rng.randint(0, 2 * len(turn))
                taken = (turn * 3)[:size]
                rest = (turn * 4)[size:size + len(turn)]
                self.check(alphabet, (head, turn), (head + taken, rest), True)
                self.check(alphabet, (head, turn), (head + taken, rest * 3), True)

    def test_turns_that_go_on_at_each_place_by_itself(self):
        # Nothing happens at both places, so each of them may be at another point of its turn.
        self.check(FREE, ((), (0, 1)), ((0, 0, 0), (1, 0)), True)
        self.check(FREE, ((1,), (0, 0, 1)), ((), (1, 1, 1, 0)), True)
        self.check(SHARED, ((), (0, 1, 2)), ((), (1, 0, 2)), True)
        self.check(SHARED, ((), (0, 2, 1)), ((0, 2), (0, 1, 2)), True)
        self.check(SHARED, ((), (0, 2)), ((1,), (0, 2)), False)

    def test_swaps_change_nothing(self):
        rng = random.Random(107)
        for alphabet in ALPHABETS:
            for _ in range(20):
                loops = [random_word(rng, alphabet, rng.randint(0, 8)) for _ in range(2)]
                other = list(loops)
                for _ in range(10):
                    at = rng.randrange(2)
                    other[at] = rng.choice([*one_swap(alphabet, other[at]), other[at]])
                self.check(alphabet, tuple(loops), tuple(other), True)

    def test_drawn_loops(self):
        rng = random.Random(108)
        for alphabet in ALPHABETS:
            for _ in range(100):
                loops = []
                for _ in range(2):
                    head, turn = [random_word(rng, alphabet, rng.randint(0, 3)) for _ in range(2)]
                    loops.append((head, turn))
                self.check(alphabet, *loops)

    def test_empty_turns(self):
        self.check(SHARED, ((), ()), ((), ()), True)
        self.check(SHARED, ((0, 1, 2), ()), ((1, 0, 2), ()), True)
        self.check(SHARED, ((0, 1, 2), ()), ((0, 2, 1), ()), False)
        self.check(SHARED, ((0, 1), ()), ((0,), ()), False)
        self.check(SHARED, ((0,), ()), ((), (0,)), False)
        self.check(SHARED, ((), ()), ((), (1,)), False)
        self.check(SINGLE, ((0,) * 9, ()), ((0,), (0,)), False)

    def test_places_that_have_no_letter_of_the_turn(self):
        self.check(SHARED, ((0, 1), (0,)), ((1,), (0, 0)), True)
        self.check(SHARED, ((0, 1), (0,)), ((), (0,)), False)
        self.check(SHARED, ((0, 1), (0,)), ((0, 1, 1), (0,)), False)
        self.check(SHARED, ((0, 1), (0,)), ((0,), (0, 1)), False)
        self.check(SHARED, ((1, 2), (0,)), ((1, 2), (1,)), False)
        # A place may have no letter at all, on one side or on both.
        self.check(RING, ((), (0,)), ((0,), (0,)), True)
        self.check(RING, ((), (0,)), ((2,), (0,)), False)

    def test_a_difference_at_one_place(self):
        self.check(FREE, ((), (0, 1)), ((), (0, 0)), False)
        self.check(MIXED, ((4,), (0, 3)), ((), (0, 3)), False)
        alphabet = Alphabet(2, [(0,), (0,), (1,)])
        self.check(alphabet, ((), (0, 1, 2)), ((), (1, 0, 2)), False)
        self.check(alphabet, ((), (0, 1, 2)), ((0,), (1, 0, 2)), True)

    def test_a_late_difference(self):
        alphabet = Alphabet(1, [(0,), (0,)])
        for size in (1, 5, 30):
            self.check(alphabet, ((0,) * size, (1,)), ((0,) * size + (1,) * size, (1,)), True)
            self.check(alphabet, ((0,) * size, (1,)), ((0,) * size + (1,) * size + (0,), (1,)), False)
        # The turns are equal for as long as two different ones can be.
        fibonacci = [(0,), (0, 1)]
        for _ in range(5):
            fibonacci.append(fibonacci[-1] + fibonacci[-2])
        one, other = fibonacci[-1], fibonacci[-2]
        together = len(one) + len(other)
        self.assertEqual((one * 3)[:together - 2], (other * 5)[:together - 2])
        self.check(alphabet, ((), one), ((), other), False)
        self.check(alphabet, ((0,) * 9, one), ((0,) * 9, other), False)

    def test_lists_and_tuples(self):
        first, second = [[0], [1, 0, 0]], ((1, 0), [0, 1])
        self.assertIs(same_loop(FREE, first, second), True)
        self.assertEqual((first, second), ([[0], [1, 0, 0]], ((1, 0), [0, 1])))
        self.assertIs(same_loop(FREE, [[0], []], ((0,), ())), True)
        self.assertIs(same_loop(FREE, ([0], (1,)), [(0,), [0]]), False)
