"""Holds the objects of the interface against points 2 and 4 of the document."""

import unittest

from placewords.automata import Automaton
from placewords.histories import History
from placewords.ledgers import Ledger
from placewords.machines import Machines
from placewords.monitors import Monitors
from placewords.news import News
from placewords.players import Player
from placewords.teams import Team

from tests.samples import SHARED


def objects():
    automaton = Automaton(3, 0, [0], [[0, 0, 0]])
    machines = Machines(SHARED, automaton)
    player = Player(SHARED, machines, [[0, 2], [2]])
    ledger, history = Ledger(SHARED), History(SHARED)
    team = Team(SHARED, [1, 1], [0, 0], [[[0]], [[0]], [[0, 0]]], [0])
    found = [SHARED, automaton, machines, player, ledger, history, team]
    found += [Monitors(SHARED, ("both", ("letter", 0), ("letter", 1))), News(SHARED)]
    yield from found
    for letter in (0, 2):
        player.happen(letter)
        ledger.happen(letter)
        history.happen(letter)
    history.undo(1)
    yield from found


class ObjectsTest(unittest.TestCase):
    def check_value(self, value):
        self.assertNotIsInstance(value, (list, set, dict))
        if isinstance(value, tuple):
            for part in value:
                self.check_value(part)

    def test_attributes_hold_tuples(self):
        for one in objects():
            for value in vars(one).values():
                self.check_value(value)

    def test_attributes_are_those_of_the_document(self):
        automaton = Automaton(3, 0, [0], [[0, 0, 0]])
        self.assertEqual((automaton.letters, automaton.start, automaton.finals), (3, 0, (0,)))
        self.assertEqual((SHARED.places, SHARED.letters), (2, ((0,), (1,), (0, 1))))
