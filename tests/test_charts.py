import random
import unittest

from placewords.charts import Chart, line, races, surely_before
from placewords.errors import InvalidAlphabet


def plain_line(messages, place):
    events = [event for message in messages for event in message]
    return [number for number, other in enumerate(events) if other == place]


def plain_before(places, messages):
    """The set of all pairs that follow from the rules, taken together again and again."""
    pairs = {(2 * number, 2 * number + 1) for number in range(len(messages))}
    for place in range(places):
        events = plain_line(messages, place)
        pairs |= {(one, other) for one in events for other in events if one < other and other % 2 == 0}
    for first, message in enumerate(messages):
        for second in range(first + 1, len(messages)):
            if messages[second] == message:
                pairs.add((2 * first + 1, 2 * second + 1))
    while True:
        more = {(one, other) for one, middle in pairs for again, other in pairs if middle == again} - pairs
        if not more:
            return pairs
        pairs |= more


def drawn_messages(rng, places, many):
    return [tuple(rng.sample(range(places), 2)) for _ in range(many)]


class ChartTest(unittest.TestCase):
    def refused(self, places, messages):
        with self.assertRaises(InvalidAlphabet):
            Chart(places, messages)

    def check(self, places, messages):
        chart = Chart(places, messages)
        pairs = plain_before(places, messages)
        events = range(2 * len(messages))
        for one in events:
            self.assertIs(surely_before(chart, one, one), False)
            for other in events:
                self.assertIs(surely_before(chart, one, other), (one, other) in pairs, (messages, one, other))
        lines = [plain_line(messages, place) for place in range(places)]
        self.assertEqual([line(chart, place) for place in range(places)], lines)
        expected = sorted(
            (one, other) for own in lines for one in own for other in own
            if one < other and (one, other) not in pairs
        )
        found = races(chart)
        self.assertEqual(found, expected, messages)
        self.assertIs(type(found), list)
        self.assertTrue(all(type(race) is tuple for race in found))
        return found

    def test_the_example(self):
        chart = Chart(3, [(0, 2), (1, 2)])
        self.assertEqual((line(chart, 2), races(chart)), ([1, 3], [(1, 3)]))

    def test_attributes(self):
        messages = [[0, 1], (1, 0)]
        chart = Chart(2, messages)
        self.assertEqual((chart.places, chart.messages), (2, ((0, 1), (1, 0))))
        messages[0][0] = 1
        messages.append((0, 1))
        self.assertEqual(chart.messages, ((0, 1), (1, 0)))
        self.assertEqual(messages, [[1, 1], (1, 0), (0, 1)])
        self.assertEqual(Chart(4, ()).messages, ())

    def test_what_is_refused(self):
        for places in (0, 1, 5, -1, 100):
            self.refused(places, [])
            self.refused(places, [(0, 1)])
        for message in ((0, 2), (2, 0), (-1, 0), (0, -1), (0, 0), (1, 1), (5, 7), (-1, -1), (2, 2)):
            self.refused(2, [message])
            self.refused(2, [(0, 1), message])
            self.refused(2, [message, (0, 1)])
        self.refused(2, [(0, 1)] * 41)
        self.refused(4, [(0, 1), (2, 3)] * 30)
        self.assertEqual(len(Chart(2, [(0, 1)] * 40).messages), 40)
        for places in (2, 3, 4):
            Chart(places, [(0, places - 1), (places - 1, 0)])

    def test_drawn_charts(self):
        rng = random.Random(153)
        for places in (2, 3, 4):
            for many in range(9):
                for _ in range(5):
                    self.check(places, drawn_messages(rng, places, many))

    def test_forty_messages(self):
        rng = random.Random(154)
        messages = drawn_messages(rng, 4, 40)
        chart = Chart(4, messages)
        found = races(chart)
        self.assertEqual(found, sorted(found))
        some = drawn_messages(rng, 3, 14)
        self.check(3, some)
        self.assertEqual(races(Chart(2, [(0, 1)] * 40)), [])
        self.assertTrue(surely_before(Chart(2, [(0, 1)] * 40), 0, 79))

    def test_no_messages(self):
        for places in (2, 3, 4):
            chart = Chart(places, [])
            self.assertEqual(races(chart), [])
            self.assertEqual([line(chart, place) for place in range(places)], [[]] * places)

    def test_messages_between_the_same_places(self):
        # Messages do not overtake each other.
        self.assertEqual(self.check(2, [(0, 1), (0, 1), (0, 1)]), [])
        # Both ways: the receiving of a message may come ahead of what is sent on the other way.
        self.assertEqual(self.check(2, [(0, 1), (1, 0)]), [])
        self.assertEqual(self.check(3, [(0, 1), (2, 1), (0, 1)]), [(1, 3), (3, 5)])
        self.assertEqual(self.check(2, [(0, 1), (1, 0), (0, 1), (0, 1), (1, 0)]), [])
        # A sending on the line ahead of a receiving is no reason that it comes before it.
        self.assertEqual(self.check(3, [(0, 1), (2, 0)]), [(0, 3)])
        # Two messages cross: each is sent before the other one is received, and that is not sure.
        chart = Chart(3, [(0, 1), (1, 2), (2, 0)])
        self.assertTrue(surely_before(chart, 0, 5))
        self.assertEqual(races(chart), [])

    def test_news_through_others(self):
        # The second message is only sent behind the receiving of the first one.
        self.assertEqual(self.check(3, [(0, 1), (1, 2), (0, 2)]), [(3, 5)])
        self.assertEqual(self.check(3, [(0, 2), (2, 1), (1, 2)]), [])
        self.assertEqual(self.check(3, [(0, 2), (0, 1), (1, 2)]), [(1, 5)])

    def test_results_are_new_each_time(self):
        chart = Chart(3, [(0, 2), (1, 2)])
        races(chart).clear()
        line(chart, 2).append(7)
        self.assertEqual((line(chart, 2), races(chart)), ([1, 3], [(1, 3)]))
