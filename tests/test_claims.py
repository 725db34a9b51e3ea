import random
import unittest

from placewords.claims import truths

from tests.samples import ALPHABETS, APART, CHAIN, FREE, RING, SHARED, SINGLE, below_pairs, random_word, short_words


def plain_truth(alphabet, word, below, claim, event):
    """Point 33 for one event of a word, as it is written."""
    kind = claim[0]

    def holds(part, other):
        return plain_truth(alphabet, word, below, part, other)

    if kind == "letter":
        return word[event] == claim[1]
    if kind == "not":
        return not holds(claim[1], event)
    if kind == "both":
        return holds(claim[1], event) and holds(claim[2], event)
    if kind == "known":
        ahead = [i for i in range(event) if (i, event) in below and claim[1] in alphabet.letters[word[i]]]
        return bool(ahead) and holds(claim[2], max(ahead))
    if kind == "once":
        return any(holds(claim[1], i) for i in range(event + 1) if (i, event) in below)
    # Chains are followed backwards, from the event on, as long as the first part is true.
    front, seen = [event], {event}
    for last in front:
        if holds(claim[2], last):
            return True
        if holds(claim[1], last):
            for place in alphabet.letters[word[last]]:
                ahead = [i for i in range(last) if place in alphabet.letters[word[i]]]
                if ahead and max(ahead) not in seen:
                    seen.add(max(ahead))
                    front.append(max(ahead))
    return False


def plain_truths(alphabet, word, claim):
    below = below_pairs(alphabet, word)
    return [plain_truth(alphabet, word, below, claim, event) for event in range(len(word))]


def drawn_claim(rng, alphabet, parts):
    """A claim with this many parts."""
    if parts == 1:
        return ("letter", rng.randrange(len(alphabet.letters)))
    if parts > 2 and rng.random() < 0.5:
        left = rng.randint(1, parts - 2)
        kind = rng.choice(["both", "chain", "chain"])
        return (kind, drawn_claim(rng, alphabet, left), drawn_claim(rng, alphabet, parts - 1 - left))
    kind = rng.choice(["not", "known", "known", "once"])
    part = drawn_claim(rng, alphabet, parts - 1)
    return (kind, rng.randrange(alphabet.places), part) if kind == "known" else (kind, part)


def first_claims(alphabet):
    """Each form of claim over single letters."""
    letters = [("letter", a) for a in range(len(alphabet.letters))]
    yield from letters
    for f in letters:
        yield ("not", f)
        yield ("once", f)
        for place in range(alphabet.places):
            yield ("known", place, f)
        for g in letters:
            yield ("both", f, g)
            yield ("chain", f, g)
            yield ("chain", ("not", f), g)


class ClaimsTest(unittest.TestCase):
    def check(self, alphabet, word, claim):
        found = truths(alphabet, list(word), claim)
        self.assertIs(type(found), list)
        self.assertTrue(all(type(truth) is bool for truth in found))
        self.assertEqual(found, plain_truths(alphabet, word, claim), (word, claim))

    def test_the_example(self):
        found = truths(SHARED, (0, 2, 1, 1), ("known", 0, ("letter", 2)))
        self.assertEqual(found, [False, False, True, True])

    def test_each_form_alone(self):
        rng = random.Random(70)
        for alphabet in ALPHABETS:
            words = [random_word(rng, alphabet, 8) for _ in range(3)]
            words += rng.sample(short_words(alphabet, 200), 5)
            for claim in first_claims(alphabet):
                for word in words:
                    self.check(alphabet, word, claim)

    def test_within_one_another(self):
        rng = random.Random(71)
        for alphabet in ALPHABETS:
            for _ in range(60):
                claim = drawn_claim(rng, alphabet, rng.randint(2, 8))
                self.check(alphabet, random_word(rng, alphabet, 9), claim)

    def test_forty_parts(self):
        rng = random.Random(72)
        for alphabet in (SHARED, CHAIN, RING):
            for _ in range(4):
                self.check(alphabet, random_word(rng, alphabet, 7), drawn_claim(rng, alphabet, 40))
        deep = ("letter", 0)
        for _ in range(39):
            deep = ("not", deep)
        self.assertEqual(truths(SHARED, (0, 1, 2), deep), [False, True, True])

    def test_known_at_an_event_of_the_place_itself(self):
        # The last event at the place that is below the event, and not the event itself.
        self.assertEqual(truths(SHARED, (0, 0, 2, 0), ("known", 0, ("letter", 0))), [False, True, True, False])
        self.assertEqual(truths(SHARED, (0, 2, 2), ("known", 0, ("letter", 2))), [False, False, True])
        self.assertEqual(truths(SHARED, (1, 1, 2), ("known", 1, ("not", ("letter", 2)))), [False, True, True])

    def test_known_without_an_event_at_the_place(self):
        anything = ("not", ("both", ("letter", 0), ("not", ("letter", 0))))
        self.assertEqual(truths(SHARED, (0, 0, 1), ("known", 1, anything)), [False, False, False])
        self.assertEqual(truths(SHARED, (1, 0, 0, 2, 0), ("known", 1, anything)), [False, False, False, True, True])
        self.assertEqual(truths(APART, (0, 1, 2, 3), ("known", 0, anything)), [False] * 4)
        self.assertEqual(truths(SHARED, (0, 0), ("not", ("known", 1, anything))), [True, True])

    def test_known_takes_the_last_event_only(self):
        self.assertEqual(truths(RING, (3, 0, 1), ("known", 0, ("letter", 0))), [False, False, True])
        self.assertEqual(truths(RING, (0, 3, 1, 2), ("known", 0, ("letter", 0))), [False, True, True, False])

    def test_once(self):
        self.assertEqual(truths(SHARED, (0, 1, 2, 1), ("once", ("letter", 0))), [True, False, True, True])
        self.assertEqual(truths(CHAIN, (2, 0, 1, 0), ("once", ("letter", 2))), [True, False, True, True])

    def test_chain(self):
        # No step at all: the second part is true at the event itself.
        self.assertEqual(truths(SHARED, (1, 0), ("chain", ("letter", 2), ("letter", 0))), [False, True])
        # Along letters of several places, from the last event of any place of each letter.
        claim = ("chain", ("not", ("letter", 2)), ("letter", 2))
        self.assertEqual(truths(CHAIN, (2, 1, 0, 0), claim), [True, True, True, True])
        self.assertEqual(truths(CHAIN, (0, 2, 1, 0), claim), [False, True, True, True])
        # The last event ahead at a place stops the chain, though earlier ones are below as well.
        claim = ("chain", ("letter", 0), ("letter", 2))
        self.assertEqual(truths(SHARED, (2, 0, 0, 1, 0), claim), [True, True, True, False, True])
        self.assertEqual(truths(SINGLE, (0, 0), ("chain", ("letter", 0), ("letter", 0))), [True, True])
        alphabet_claim = ("chain", ("letter", 1), ("letter", 0))
        self.assertEqual(truths(FREE, (0, 1, 1), alphabet_claim), [True, False, False])
        # One place stops the chain and the other one does not.
        self.assertEqual(truths(CHAIN, (0, 2, 1), ("chain", ("letter", 1), ("letter", 2))), [False, True, True])

    def test_the_empty_word(self):
        for alphabet in ALPHABETS:
            for claim in first_claims(alphabet):
                self.assertEqual(truths(alphabet, (), claim), [])

    def test_equivalent_words(self):
        claim = ("chain", ("not", ("known", 1, ("letter", 1))), ("once", ("letter", 0)))
        one = truths(SHARED, (0, 1, 1, 2, 1), claim)
        other = truths(SHARED, (1, 1, 0, 2, 1), claim)
        self.assertEqual([one[0], *one[1:3], *one[3:]], [other[2], *other[:2], *other[3:]])

    def test_long_words(self):
        word = (0, 1, 2) * 400
        found = truths(SHARED, word, ("both", ("once", ("letter", 2)), ("known", 0, ("letter", 2))))
        self.assertEqual(found, [False] * 3 + [True, True, False] * 399)
