import random
import unittest

from placewords.alphabets import Alphabet
from placewords.events import newest
from placewords.news import News

from tests.samples import ALPHABETS, CHAIN, RING, SHARED, happen, orders, random_word


def all_alphabets(rng, many):
    for _ in range(many):
        places = rng.randint(2, 4)
        letters = [
            tuple(sorted(rng.sample(range(places), rng.choice([1, 2, 2, min(3, places)]))))
            for _ in range(rng.randint(2, 6))
        ]
        yield Alphabet(places, letters)


class NewsTest(unittest.TestCase):
    def check_moment(self, alphabet, news, states, word):
        known = [newest(alphabet, word, place) for place in range(alphabet.places)]
        for p, first in enumerate(states):
            for q, second in enumerate(states):
                for r in range(alphabet.places):
                    expected = (known[p][r] > known[q][r]) - (known[p][r] < known[q][r])
                    self.assertEqual(news.compare(first, second, r), expected, (word, p, q, r))

    def run_word(self, alphabet, word):
        news = News(alphabet)
        states = list(news.start())
        self.check_moment(alphabet, news, states, ())
        for size, letter in enumerate(word):
            happen(alphabet, news, states, letter)
            self.check_moment(alphabet, news, states, word[:size + 1])

    def test_the_beginning(self):
        for alphabet in ALPHABETS:
            news = News(alphabet)
            states = news.start()
            self.assertIs(type(states), tuple)
            self.assertEqual(len(states), alphabet.places)
            self.assertEqual(len(set(states)), 1)

    def test_drawn_words(self):
        rng = random.Random(27)
        for alphabet in ALPHABETS + list(all_alphabets(rng, 30)):
            self.run_word(alphabet, random_word(rng, alphabet, 40))

    def test_an_event_that_nobody_knows(self):
        news = News(CHAIN)
        states = list(news.start())
        self.assertEqual(news.compare(states[0], states[2], 1), 0)
        happen(CHAIN, news, states, 2)
        self.assertEqual(news.compare(states[0], states[2], 0), 0)
        self.assertEqual(news.compare(states[0], states[2], 2), -1)
        self.assertEqual(news.compare(states[2], states[1], 2), 1)

    def test_news_go_around(self):
        news = News(RING)
        states = list(news.start())
        for letter in (0, 1, 2):
            happen(RING, news, states, letter)
        self.assertEqual(news.compare(states[0], states[3], 0), 0)
        self.assertEqual(news.compare(states[0], states[3], 1), -1)
        happen(RING, news, states, 0)
        self.assertEqual(news.compare(states[0], states[3], 1), 1)
        self.assertEqual(news.compare(states[0], states[3], 2), -1)
        happen(RING, news, states, 3)
        self.assertEqual([news.compare(states[0], states[3], place) for place in range(4)], [0] * 4)

    def test_a_place_that_is_silent_for_long(self):
        rng = random.Random(28)
        for _ in range(20):
            word = (0, 1, 2, 3) + tuple(rng.choice([0, 1]) for _ in range(60)) + random_word(rng, RING, 15)
            self.run_word(RING, word)

    def test_local_states_stay_small(self):
        rng = random.Random(29)
        for alphabet in ALPHABETS:
            news = News(alphabet)
            states = list(news.start())
            for letter in random_word(rng, alphabet, 1200):
                happen(alphabet, news, states, letter)
                for state in states:
                    self.assertIs(type(state), tuple)
                    self.assertLessEqual(len(state), 300)
                    self.assertTrue(all(type(number) is int for number in state))
                    self.assertTrue(0 <= min(state) and max(state) <= 9999)

    def test_equal_questions_get_equal_answers(self):
        rng = random.Random(30)
        one, other = News(RING), News(Alphabet(4, list(RING.letters)))
        first, second = list(one.start()), list(other.start())
        for letter in random_word(rng, RING, 50):
            states = tuple(first[place] for place in RING.letters[letter])
            self.assertEqual(one.meet(letter, states), one.meet(letter, states))
            happen(RING, one, first, letter)
            happen(RING, other, second, letter)
            self.assertEqual(first, second)

    def test_the_order_of_independent_letters_does_not_matter(self):
        rng = random.Random(31)
        for alphabet in ALPHABETS:
            word = random_word(rng, alphabet, 7)
            ends = set()
            for order in orders(alphabet, word):
                news = News(alphabet)
                states = list(news.start())
                for letter in order:
                    happen(alphabet, news, states, letter)
                ends.add(tuple(states))
            self.assertEqual(len(ends), 1)

    def test_only_finitely_many_local_states(self):
        # All states of all places that can occur are found, and there is an end to them.
        for alphabet, most in ((SHARED, 100), (Alphabet(3, [(0, 1), (1, 2)]), 1000)):
            news = News(alphabet)
            found = {news.start()}
            front = [news.start()]
            while front:
                states = list(front.pop())
                for letter in range(len(alphabet.letters)):
                    following = list(states)
                    happen(alphabet, news, following, letter)
                    if tuple(following) not in found:
                        found.add(tuple(following))
                        front.append(tuple(following))
                self.assertLess(len(found), most)
