import random
import unittest

from placewords.alphabets import Alphabet
from placewords.halls import Hall
from placewords.machines import Machines
from placewords.news import News

from tests.samples import (
    ALPHABETS, APART, CHAIN, MIXED, RING, SHARED, closed_automaton, happen, plain_queues, plain_ready, random_word,
)

THREE = Alphabet(3, [(0, 1, 2), (0, 2), (1,), (1, 2)])


def drawn_machines(rng, alphabet):
    if rng.random() < 0.5:
        return News(alphabet)
    return Machines(alphabet, closed_automaton(rng, alphabet, [2] * alphabet.places))


def expected_states(alphabet, machines, queues):
    """For each place the local states behind its events, as far as letters can happen at all."""
    left = [list(queue) for queue in queues]
    states = list(machines.start())
    rows = [[state] for state in states]
    ready = plain_ready(alphabet, left)
    while ready:
        happen(alphabet, machines, states, ready[0])
        for place in alphabet.letters[ready[0]]:
            left[place].pop(0)
            rows[place].append(states[place])
        ready = plain_ready(alphabet, left)
    return rows


class Net:
    """A hall, the messages that are under way, and all that were ever sent; everything that the hall
    does is held against point 40."""

    def __init__(self, case, alphabet, machines, queues):
        self.case, self.alphabet, self.queues = case, alphabet, [tuple(queue) for queue in queues]
        self.rows = expected_states(alphabet, machines, queues)
        self.hall = Hall(alphabet, machines, queues)
        self.places = range(alphabet.places)
        self.under_way, self.sent = [], []
        self.positions = [0] * alphabet.places
        self.check_places()

    def host(self, letter):
        return self.alphabet.letters[letter][0]

    def next_letter(self, place):
        return self.queues[place][self.positions[place]:][:1]

    def check_places(self):
        positions = [self.hall.position(place) for place in self.places]
        for place in self.places:
            self.case.assertGreaterEqual(positions[place], self.positions[place])
            self.case.assertEqual(self.hall.state(place), self.rows[place][positions[place]])
        self.positions = positions
        at_ends = [len(queue) for queue in self.queues] == positions
        self.case.assertIs(self.hall.is_done(), at_ends)

    def check_local(self, place):
        """No letter that could happen at the place alone is left over."""
        for letter in self.next_letter(place):
            self.case.assertNotEqual(self.alphabet.letters[letter], (place,))

    def check_answer(self, answer, host):
        self.case.assertIs(type(answer), tuple)
        kind, sender, place, position, state = answer
        self.case.assertEqual((kind, sender), ("answer", host))
        letter = self.queues[place][position]
        self.case.assertEqual(self.host(letter), host)
        self.case.assertNotEqual(place, host)
        self.case.assertEqual(state, self.rows[place][position + 1])

    def take(self, messages):
        self.under_way += messages
        self.sent += messages

    def ask(self, place):
        messages = self.hall.ask(place)
        self.check_places()
        self.check_local(place)
        self.case.assertIs(type(messages), list)
        letters = self.next_letter(place)
        if letters and self.host(letters[0]) != place:
            offer = ("offer", place, self.host(letters[0]), self.positions[place], self.hall.state(place))
            self.case.assertEqual(messages[-1], offer)
            self.case.assertIs(type(messages[-1]), tuple)
            answers = messages[:-1]
        else:
            answers = messages
        for answer in answers:
            self.check_answer(answer, place)
        self.take(messages)
        return messages

    def hear(self, message):
        messages = self.hall.hear(message)
        self.check_places()
        self.check_local(message[2])
        self.case.assertIs(type(messages), list)
        for answer in messages:
            self.check_answer(answer, message[2])
        self.take(messages)
        return messages

    def do_something(self, rng):
        kind = rng.random()
        if kind < 0.35 or not self.under_way:
            self.ask(rng.choice(self.places))
        elif kind < 0.7:
            self.hear(self.under_way.pop(rng.randrange(len(self.under_way))))
        elif kind < 0.8:
            self.hear(rng.choice(self.sent))
        elif kind < 0.9:
            self.under_way.pop(rng.randrange(len(self.under_way)))
        else:
            self.case.assertIsNone(self.hall.crash(rng.choice(self.places)))
            self.check_places()

    def settle(self, rounds=300):
        """Ask all places and hear all messages again and again, until nothing changes any more."""
        before = None
        while before != self.positions and rounds:
            before = list(self.positions)
            rounds -= 1
            for place in self.places:
                self.ask(place)
            while self.under_way:
                self.hear(self.under_way.pop(0))


class HallTest(unittest.TestCase):
    def test_the_example(self):
        alphabet = Alphabet(2, [(0,), (0, 1)])
        hall = Hall(alphabet, News(alphabet), [(0, 1), (1,)])
        offer = hall.ask(1)[0]
        found = (offer[:4], hall.ask(0), [answer[:4] for answer in hall.hear(offer)], hall.is_done())
        self.assertEqual(found, (("offer", 1, 0, 0), [], [("answer", 0, 1, 0)], False))

    def test_whatever_happens_to_messages(self):
        rng = random.Random(100)
        for alphabet in ALPHABETS + [THREE]:
            for _ in range(6):
                queues = plain_queues(alphabet, random_word(rng, alphabet, rng.randint(0, 25)))
                net = Net(self, alphabet, drawn_machines(rng, alphabet), queues)
                for _ in range(150):
                    net.do_something(rng)
                net.settle()
                self.assertTrue(net.hall.is_done())
                self.assertEqual(net.positions, [len(queue) for queue in queues])

    def test_all_events_happen_at_once(self):
        rng = random.Random(101)
        for alphabet in ALPHABETS + [THREE]:
            machines = drawn_machines(rng, alphabet)
            net = Net(self, alphabet, machines, plain_queues(alphabet, random_word(rng, alphabet, 40)))
            net.settle()
            self.assertTrue(net.hall.is_done())
            states = tuple(net.hall.state(place) for place in net.places)
            self.assertEqual(states, tuple(row[-1] for row in net.rows))

    def test_queues_that_are_not_whole(self):
        rng = random.Random(102)
        for alphabet in ALPHABETS + [THREE]:
            for kind in ("exchanged", "taken away", "put in") * 4:
                queues = plain_queues(alphabet, random_word(rng, alphabet, 12))
                place = rng.randrange(alphabet.places)
                queue = list(queues[place])
                own = [letter for letter, places in enumerate(alphabet.letters) if place in places]
                if kind == "exchanged" and len(queue) > 1:
                    at = rng.randrange(len(queue) - 1)
                    queue[at], queue[at + 1] = queue[at + 1], queue[at]
                elif kind == "taken away" and queue:
                    queue.pop(rng.randrange(len(queue)))
                else:
                    queue.insert(rng.randint(0, len(queue)), rng.choice(own))
                queues[place] = tuple(queue)
                net = Net(self, alphabet, drawn_machines(rng, alphabet), queues)
                for _ in range(60):
                    net.do_something(rng)
                net.settle()
                # All has happened that can happen, and no more.
                self.assertEqual(net.positions, [len(row) - 1 for row in net.rows])
                self.assertIs(net.hall.is_done(), net.positions == [len(queue) for queue in queues])

    def test_queues_that_wait_for_one_another(self):
        net = Net(self, RING, News(RING), [(3, 0), (0, 1), (1, 2), (2, 3)])
        net.settle()
        self.assertEqual(net.positions, [0, 0, 0, 0])
        self.assertFalse(net.hall.is_done())
        alphabet = Alphabet(2, [(0, 1), (0, 1), (1,)])
        net = Net(self, alphabet, News(alphabet), [(0, 1), (2, 1, 0, 2)])
        net.settle()
        self.assertEqual(net.positions, [0, 1])
        net = Net(self, alphabet, News(alphabet), [(0,), (0, 0, 2)])
        net.settle()
        self.assertEqual(net.positions, [1, 1])
        net = Net(self, alphabet, News(alphabet), [(0, 0, 1), (0, 2)])
        net.settle()
        self.assertEqual(net.positions, [1, 2])

    def test_letters_of_one_place_happen_when_it_is_asked(self):
        net = Net(self, SHARED, News(SHARED), [(0, 0, 0), (1, 1)])
        self.assertEqual((net.positions, net.ask(0), net.positions), ([0, 0], [], [3, 0]))
        self.assertFalse(net.hall.is_done())
        self.assertEqual((net.ask(0), net.ask(1), net.positions), ([], [], [3, 2]))
        self.assertTrue(net.hall.is_done())
        net = Net(self, APART, News(APART), [(0,), (1,), (2, 2), ()])
        for place in (3, 2, 1, 0):
            self.assertEqual(net.ask(place), [])
        self.assertTrue(net.hall.is_done())

    def test_no_letters_at_all(self):
        hall = Hall(SHARED, News(SHARED), [(), []])
        self.assertEqual((hall.ask(0), hall.ask(1), hall.is_done()), ([], [], True))
        self.assertEqual((hall.position(0), hall.position(1)), (0, 0))
        self.assertEqual((hall.state(0), hall.state(1)), News(SHARED).start())

    def test_what_an_ask_returns(self):
        news = News(SHARED)
        net = Net(self, SHARED, news, [(2, 0, 2), (1, 2, 1, 2)])
        # The place with another host goes on by itself and offers; the host has no offer yet.
        self.assertEqual(net.ask(0), [])
        offer = net.ask(1)
        self.assertEqual([message[:4] for message in offer], [("offer", 1, 0, 1)])
        self.assertEqual(offer[0][4], net.hall.state(1))
        self.assertEqual(net.ask(1), offer)
        self.assertEqual(net.positions, [0, 1])
        # The host meets, goes on by itself, and waits for the next offer.
        answer = net.hear(offer[0])
        self.assertEqual([message[:4] for message in answer], [("answer", 0, 1, 1)])
        self.assertEqual(answer[0][4], net.rows[1][2])
        self.assertEqual(net.positions, [2, 1])
        self.assertEqual(net.ask(0), [])
        # The other place hears it and goes on by itself, but offers only when it is asked.
        self.assertEqual(net.hear(answer[0]), [])
        self.assertEqual(net.positions, [2, 3])
        self.assertEqual([message[:4] for message in net.ask(1)], [("offer", 1, 0, 3)])

    def test_answers_to_all_other_places(self):
        net = Net(self, THREE, News(THREE), plain_queues(THREE, (0, 2, 1, 0)))
        first, second = net.ask(1)[0], net.ask(2)[0]
        self.assertEqual((first[:4], second[:4]), (("offer", 1, 0, 0), ("offer", 2, 0, 0)))
        self.assertEqual(net.hear(second), [])
        answers = net.hear(first)
        self.assertEqual([answer[:4] for answer in answers], [("answer", 0, 1, 0), ("answer", 0, 2, 0)])
        self.assertEqual(net.positions, [1, 0, 0])
        self.assertEqual(net.hear(answers[0]), [])
        self.assertEqual(net.positions, [1, 2, 0])
        self.assertEqual(net.hear(answers[1]), [])
        # The positions of one event are different at its places.
        offers = net.ask(1) + net.ask(2)
        self.assertEqual([offer[:4] for offer in offers], [("offer", 1, 0, 2), ("offer", 2, 0, 1)])
        answers = net.hear(offers[1])
        self.assertEqual([answer[:4] for answer in answers], [("answer", 0, 2, 1)])
        self.assertEqual(net.hear(answers[0]), [])
        self.assertEqual([offer[:4] for offer in net.ask(2)], [("offer", 2, 0, 2)])
        self.assertEqual(net.hear(net.sent[-1]), [])
        answers = net.hear(offers[0])
        self.assertEqual([answer[:4] for answer in answers], [("answer", 0, 1, 2), ("answer", 0, 2, 2)])

    def test_a_host_that_is_not_place_0(self):
        net = Net(self, CHAIN, News(CHAIN), [(), (1, 1), (2, 1, 1)])
        offer = net.ask(2)[0]
        self.assertEqual(offer[:4], ("offer", 2, 1, 1))
        self.assertEqual([answer[:4] for answer in net.hear(offer)], [("answer", 1, 2, 1)])
        self.assertEqual(net.positions, [0, 1, 1])

    def test_several_meetings_at_once(self):
        alphabet = Alphabet(3, [(0, 1), (0, 2), (0,)])
        net = Net(self, alphabet, News(alphabet), [(0, 2, 1, 2), (0,), (1,)])
        self.assertEqual(net.hear(net.ask(2)[0]), [])
        answers = net.hear(net.ask(1)[0])
        self.assertEqual([answer[:4] for answer in answers], [("answer", 0, 1, 0), ("answer", 0, 2, 0)])
        self.assertEqual(net.positions, [4, 0, 0])

    def test_an_offer_is_repeated(self):
        net = Net(self, THREE, News(THREE), plain_queues(THREE, (0, 0)))
        offers = net.ask(1) + net.ask(2)
        for _ in range(3):
            self.assertEqual(net.hear(offers[0]), [])
        answers = net.hear(offers[1])
        self.assertEqual(len(answers), 2)
        # The event has happened: each place gets its own answer again.
        for _ in range(2):
            self.assertEqual(net.hear(offers[0]), [answers[0]])
            self.assertEqual(net.hear(offers[1]), [answers[1]])
        self.assertEqual(net.positions, [1, 0, 0])
        for _ in range(3):
            self.assertEqual(net.hear(answers[0]), [])
            self.assertEqual(net.positions, [1, 1, 0])
        net.settle()
        self.assertEqual(net.hear(offers[0]), [answers[0]])
        self.assertEqual(net.hear(answers[1]), [])
        self.assertEqual(net.positions, [2, 2, 2])

    def test_messages_of_an_earlier_time(self):
        # The same letter again and again: an old offer or answer is never taken for a new one.
        net = Net(self, SHARED, Machines(SHARED, closed_automaton(random.Random(4), SHARED, [2, 3])), [(2,) * 5] * 2)
        old = []
        for _ in range(5):
            offer = net.ask(1)[0]
            for message in old:
                net.hear(message)
            self.assertEqual(net.positions[0], net.positions[1])
            answer = net.hear(offer)[-1]
            for message in old:
                net.hear(message)
            self.assertEqual(net.positions[0], net.positions[1] + 1)
            net.hear(answer)
            old += [offer, answer]
        self.assertTrue(net.hall.is_done())

    def test_crashes(self):
        net = Net(self, THREE, News(THREE), plain_queues(THREE, (0, 1, 0)))
        offers = net.ask(1) + net.ask(2)
        net.hear(offers[0])
        net.hall.crash(0)
        # Only the other offer is known now.
        self.assertEqual(net.hear(offers[1]), [])
        self.assertEqual(net.positions, [0, 0, 0])
        # The crash of a place that is no host, or of another one, takes nothing away.
        net.hall.crash(1)
        net.hall.crash(2)
        answers = net.hear(offers[0])
        self.assertEqual([answer[:4] for answer in answers], [("answer", 0, 1, 0), ("answer", 0, 2, 0)])
        # What has happened, and the answers for it, are not forgotten.
        net.hall.crash(0)
        self.assertEqual(net.positions, [1, 0, 0])
        self.assertEqual(net.hear(offers[1]), [answers[1]])
        net.hear(answers[0])
        net.hall.crash(1)
        self.assertEqual(net.positions, [1, 1, 0])
        net.settle()
        self.assertTrue(net.hall.is_done())

    def test_a_crash_forgets_offers_for_later_events(self):
        alphabet = Alphabet(3, [(0, 1), (0, 2)])
        net = Net(self, alphabet, News(alphabet), [(0, 1), (0,), (1,)])
        later, first = net.ask(2)[0], net.ask(1)[0]
        net.hear(later)
        net.hall.crash(0)
        self.assertEqual([answer[:4] for answer in net.hear(first)], [("answer", 0, 1, 0)])
        self.assertEqual(net.ask(0), [])
        self.assertEqual([answer[:4] for answer in net.hear(later)], [("answer", 0, 2, 0)])

    def test_hosts_forget_for_themselves_alone(self):
        net = Net(self, MIXED, News(MIXED), plain_queues(MIXED, (1, 5)))
        second, third = net.ask(2)[0], net.ask(3)[0]
        self.assertEqual((second[:4], third[:4]), (("offer", 2, 1, 0), ("offer", 3, 0, 0)))
        net.hall.crash(0)
        self.assertEqual([answer[:4] for answer in net.hear(second)], [("answer", 1, 2, 0)])
        net.hall.crash(1)
        self.assertEqual([answer[:4] for answer in net.hear(third)], [("answer", 0, 3, 0)])

    def test_queues_are_copied(self):
        queues = [[2, 0], [1, 2]]
        hall = Hall(SHARED, News(SHARED), queues)
        queues[0].pop()
        queues[1].append(2)
        queues.clear()
        hall.hear(hall.hear(hall.ask(1)[0])[0])
        self.assertTrue(hall.is_done())
        queues = [[2, 0], (1, 2)]
        hall = Hall(SHARED, News(SHARED), queues)
        offers = hall.ask(1)
        hall.hear(offers[0])
        self.assertEqual(queues, [[2, 0], (1, 2)])
        offers.clear()
        self.assertEqual(len(hall.ask(1)), 1)

    def test_two_halls_over_one_object(self):
        rng = random.Random(103)
        for alphabet in (RING, THREE, SHARED):
            machines = Machines(alphabet, closed_automaton(rng, alphabet, [2] * alphabet.places))
            nets = [
                Net(self, alphabet, machines, plain_queues(alphabet, random_word(rng, alphabet, 20)))
                for _ in range(2)
            ]
            for _ in range(200):
                rng.choice(nets).do_something(rng)
            for net in nets:
                net.settle()
                self.assertTrue(net.hall.is_done())
                self.assertEqual([net.hall.state(place) for place in net.places], [row[-1] for row in net.rows])

    def test_long_queues(self):
        rng = random.Random(104)
        net = Net(self, SHARED, News(SHARED), plain_queues(SHARED, random_word(rng, SHARED, 300)))
        net.settle(1000)
        self.assertTrue(net.hall.is_done())


if __name__ == "__main__":
    unittest.main()
