"""Holds all functions and classes of the interface against points 2 and 4 of the document."""

import copy
import importlib
import os
import subprocess
import sys
import unittest

from placewords import errors
from placewords.alphabets import Alphabet
from placewords.automata import Automaton
from placewords.charts import Chart
from placewords.choices import ChoiceTeam
from placewords.halls import Hall
from placewords.histories import History
from placewords.learners import Learner
from placewords.ledgers import Ledger
from placewords.machines import Machines
from placewords.monitors import Monitors
from placewords.news import News
from placewords.players import Player
from placewords.teams import Team

from tests.test_interface import INTERFACE, METHODS

SHARED = Alphabet(2, [(0,), (1,), (0, 1)])
# Twice as many letters 0 as 1 so far, counted by threes: a closed set.
COUNT = Automaton(3, 0, [0], [[1, 1, 0], [2, 2, 1], [0, 0, 2]])
OTHER = Automaton(3, 0, [1], [[0, 1, 0], [1, 0, 1]])
SOME = Automaton(3, 0, [3], [[1, 4, 4], [4, 2, 4], [4, 4, 3], [4, 4, 4], [4, 4, 4]])
CONNECTED = Automaton(3, 0, [1], [[2, 2, 1], [2, 2, 2], [2, 2, 2]])
STAR = ("star", ("join", ("letter", 2), ("either", ("letter", 0), ("empty",))))
CLAIM = ("both", ("once", ("letter", 0)), ("not", ("known", 1, ("letter", 1))))
FACT = ("common", ("both", ("count", 0, 1), ("not", ("knows", 1, ("count", 1, 2)))))
TABLES = [[[1], [1]], [[0], [0]], [[0, 0], [0, 1], [0, 1], [0, 0]]]
CHOICES = [[[[1], [0]], []], [[[0]], [[0]]], [[[0, 0]], [[0, 1]], [], [[0, 0], [1, 1]]]]
TEAM = Team(SHARED, [2, 2], [0, 0], TABLES, [1])
CHOICE_TEAM = ChoiceTeam(SHARED, [2, 2], [[0, 0]], CHOICES, [0, 1])
CHART = Chart(3, [(0, 2), (1, 2)])
WORD = [0, 1, 2, 1, 0]
LOGS = [[[0, [1, 0, 0]], [2, [1, 0, 1]]], [[2, [1, 0, 1]]]]

# For each name of the interface the arguments of one call or of several calls, with lists wherever
# the document allows them.
CALLS = {
    "alphabets": {
        "Alphabet": [[3, [[0], [0, 1], [2]]]], "independent": [[SHARED, 0, 1]], "components": [[SHARED, [2, 0, 1]]],
    },
    "words": {
        "place_word": [[SHARED, WORD, 0]], "equivalent": [[SHARED, WORD, [1, 0, 2, 1, 0]]],
        "swaps": [[SHARED, WORD, [1, 0, 2, 0, 1]], [SHARED, WORD, [0]]], "swapped": [[SHARED, WORD, [0, 3]]],
    },
    "forms": {"layers": [[SHARED, WORD]], "least_form": [[SHARED, WORD]], "is_least": [[SHARED, WORD]]},
    "events": {"is_below": [[SHARED, WORD, 0, 2]], "view": [[SHARED, WORD, 1]], "newest": [[SHARED, WORD, 1]]},
    "prefixes": {
        "rest": [[SHARED, [1], WORD]], "common_prefix": [[SHARED, [0, 2], [1, 0]]],
        "join": [[SHARED, [0, 0], [1, 0]]], "order_count": [[SHARED, WORD]],
    },
    "automata": {
        "Automaton": [[2, 0, [0, 1], [[1, 0], [0, 1]]]], "state_after": [[COUNT, WORD]],
        "accepts": [[COUNT, WORD]], "least": [[COUNT]],
    },
    "mixtures": {
        "mixture": [[kind, COUNT, OTHER] for kind in ("and", "or", "minus")], "other_words": [[COUNT]],
        "difference": [[COUNT, OTHER]], "gap": [[COUNT, OTHER]],
    },
    "closure": {"closed_fault": [[SHARED, SOME], [SHARED, COUNT]], "least_words": [[SHARED]]},
    "products": {
        "product": [[SHARED, COUNT, OTHER]], "unconnected_word": [[SHARED, COUNT]],
        "repetition": [[SHARED, CONNECTED]],
    },
    "expressions": {
        "expression_automaton": [[SHARED, STAR]], "automaton_expression": [[SHARED, CONNECTED]],
    },
    "texts": {"format_expression": [[STAR]], "parse_expression": [["(0 . 1 + 2)*"]]},
    "news": {"News": [[SHARED]]},
    "machines": {"Machines": [[SHARED, COUNT]], "run_apart": [[Machines(SHARED, COUNT), SHARED, WORD]]},
    "players": {
        "queues_of": [[SHARED, WORD]], "word_of": [[SHARED, [[0, 2], [1, 2]]], [SHARED, [[0, 2], [1]]]],
        "Player": [[SHARED, Machines(SHARED, COUNT), [[0, 2], [1, 2]]]],
    },
    "teams": {
        "Team": [[SHARED, [2, 2], [0, 0], TABLES, [1]]], "rank_of": [[[2, 3], [1, 2]]],
        "combination_of": [[[2, 3], 5]], "team_state": [[TEAM, WORD]], "team_accepts": [[TEAM, WORD]],
        "team_automaton": [[TEAM]],
    },
    "ledgers": {"Ledger": [[SHARED]], "gathered": [[SHARED, WORD]]},
    "actions": {"action": [[COUNT, WORD]], "actions": [[COUNT]], "unsettled_word": [[COUNT], [CONNECTED]]},
    "implied": {"place_set": [[SHARED, COUNT, 0]], "implied_word": [[SHARED, COUNT]]},
    "roots": {
        "root": [[SHARED, [0, 1, 2, 1, 0, 2]]], "commute": [[SHARED, [0], [1, 1]]],
        "crossing": [[SHARED, [0], [1, 2], [1], [0, 2]]],
    },
    "cuts": {
        "is_cut": [[SHARED, WORD, [2, 0, 1]]], "holds": [[SHARED, WORD, [1, 0], [[0], [1, -1]]]],
        "least_cut": [[SHARED, WORD, [[2, 0], [1]]]], "avoiding_order": [[SHARED, WORD, [[0], [-1]]]],
    },
    "claims": {"truths": [[SHARED, WORD, CLAIM]]},
    "monitors": {"Monitors": [[SHARED, CLAIM]]},
    "counts": {
        "group_counts": [[SHARED]], "word_count": [[SHARED, 5]], "accepted_count": [[SHARED, COUNT, 5]],
    },
    "clocks": {
        "clocks": [[SHARED, WORD]], "clock_below": [[[1, 0, 0], [1, 1, 1]]], "logs_of": [[SHARED, WORD]],
        "word_of_logs": [[SHARED, LOGS]],
    },
    "histories": {"History": [[SHARED]]},
    "merges": {"merge": [[SHARED, [0, 1], [0, 0]], [SHARED, [0, 1, 2], [1, 0, 0]]]},
    "finite": {"finite_automaton": [[SHARED, [WORD, [0, 2]]]]},
    "halls": {"Hall": [[SHARED, News(SHARED), [[0, 2], [1, 2]]]]},
    "ranks": {"rank_of_word": [[SHARED, [0, 1, 1]]], "word_at_rank": [[SHARED, 4, 7], [SHARED, 1, 9]]},
    "loops": {"same_loop": [[SHARED, [[0], [1, 2]], [[0, 1, 2], [1, 2]]]]},
    "sides": {"place_product": [[SHARED, [COUNT, OTHER]]]},
    "choices": {
        "ChoiceTeam": [[SHARED, [2, 2], [[0, 0], [1, 1]], CHOICES, [0, 1]]], "choice_accepts": [[CHOICE_TEAM, WORD]],
        "choice_automaton": [[CHOICE_TEAM]],
    },
    "claimsets": {"claim_automaton": [[SHARED, CLAIM, 0]]},
    "knowledge": {"is_true": [[SHARED, [WORD, [0], [0, 1]], [0, 1], FACT]]},
    "filetexts": {
        "format_alphabet": [[SHARED]], "format_automaton": [[COUNT]],
        "parse_alphabet": [["alphabet 2: 0 1 01\n"]], "parse_automaton": [["automaton 1 0\nfinals\nrow 0\n"]],
    },
    "orders": {"accepted_order": [[SHARED, SOME, [1, 0, 2]]], "accepted_orders": [[SHARED, SOME, [1, 0, 2]]]},
    "times": {
        "ending_times": [[SHARED, WORD, [5, 3, 1]]], "least_time": [[SHARED, WORD, [5, 3, 1]]],
        "critical_chain": [[SHARED, WORD, [5, 3, 1]]],
    },
    "productteams": {"product_team": [[SHARED, [COUNT, OTHER]]]},
    "charts": {
        "Chart": [[3, [[0, 2], [1, 2]]]], "line": [[CHART, 2]], "surely_before": [[CHART, 0, 1]],
        "races": [[CHART]],
    },
    "learners": {"Learner": [[SHARED]]},
    "nearest": {"nearest_order": [[SHARED, SOME, [1, 0, 2]]]},
    "widths": {"widest": [[SHARED, WORD]]},
}


def asked(learner):
    """Answer all questions with True."""
    while learner.question() is not None:
        learner.answer(True)


def calls_of_methods():
    """Objects in some moment, with calls of methods that return something and change nothing."""
    machines, monitors = Machines(SHARED, COUNT), Monitors(SHARED, CLAIM)
    for one in (News(SHARED), machines, monitors):
        states = one.start()
        yield one, "start", []
        yield one, "meet", [2, states]
    yield machines, "accepts", [machines.start()]
    yield News(SHARED), "compare", [*News(SHARED).start(), 0]
    yield monitors, "truth", [monitors.start()[0]]
    player = Player(SHARED, machines, [[0, 2], [1, 2]])
    player.happen(1)
    for name in ("ready", "is_done", "is_stuck", "accepts", "happened"):
        yield player, name, []
    ledger, history, learner = Ledger(SHARED), History(SHARED), Learner(SHARED)
    ledger.happen(2)
    yield ledger, "known", [0, 2]
    for letter in (0, 1, 2):
        history.happen(letter)
    yield history, "must_undo", [0]
    yield history, "events", []
    yield history, "word", []
    yield learner, "question", []
    asked(learner)
    yield learner, "question", []
    yield learner, "guess", []
    hall = Hall(SHARED, machines, [[0, 2], [1, 2]])
    hall.hear(hall.ask(1)[0])
    hall.ask(0)
    for place in (0, 1):
        for name in ("ask", "state", "position"):
            yield hall, name, [place]
    yield hall, "hear", [hall.ask(1)[0]]
    yield hall, "is_done", []


def shown(value):
    """A value in which objects are replaced by their attributes."""
    if isinstance(value, (list, tuple)):
        return type(value)(shown(part) for part in value)
    if type(value).__module__.startswith("placewords."):
        return type(value).__name__, {name: shown(part) for name, part in sorted(vars(value).items())}
    return copy.deepcopy(value)


def spoil(value):
    """Change all lists that a value has in it."""
    if isinstance(value, (list, tuple)):
        for part in value:
            spoil(part)
    if isinstance(value, list):
        value.reverse()
        value.append("more")


class WholeTest(unittest.TestCase):
    def check_call(self, call, arguments, where):
        before = shown(arguments)
        first = call(*arguments)
        self.assertEqual(shown(arguments), before, where)
        told = shown(first)
        spoil(first)
        self.assertEqual(shown(arguments), before, where)
        second = call(*arguments)
        self.assertEqual(shown(second), told, where)
        return second, told

    def test_each_name_is_called(self):
        names = {module: sorted(parts) for module, parts in INTERFACE.items()}
        self.assertEqual({module: sorted(parts) for module, parts in CALLS.items()}, names)

    def test_functions_and_classes(self):
        for module, parts in CALLS.items():
            for name, rows in parts.items():
                part = getattr(importlib.import_module("placewords." + module), name)
                for arguments in rows:
                    # No list is shared with another call.
                    own = [argument if type(argument).__module__.startswith("placewords.")
                           else copy.deepcopy(argument) for argument in arguments]
                    result, told = self.check_call(part, own, name)
                    # What was made does not change when the arguments change afterwards.
                    spoil(own)
                    self.assertEqual(shown(result), told, name)

    def test_methods(self):
        called = {(type(one).__name__, name) for one, name, _ in calls_of_methods()}
        changing = {
            ("Player", "happen"), ("Ledger", "happen"), ("History", "happen"), ("History", "undo"), ("Hall", "crash"),
            ("Learner", "answer"), ("Learner", "correct"),
        }
        self.assertEqual(called | changing, {(name, method) for name, row in METHODS.items() for method in row})
        for one, name, arguments in calls_of_methods():
            before = shown(one)
            self.check_call(getattr(one, name), arguments, (type(one), name))
            self.assertEqual(shown(one), before, (type(one), name))

    def test_attributes_hold_no_lists(self):
        def check(value):
            self.assertNotIsInstance(value, (list, set))
            if isinstance(value, tuple):
                for part in value:
                    check(part)

        made = [one for one, _, _ in calls_of_methods()]
        for parts in CALLS.values():
            for rows in parts.values():
                made += [part for row in rows for part in row if type(part).__module__.startswith("placewords.")]
        for module, name in (("teams", "Team"), ("choices", "ChoiceTeam"), ("charts", "Chart"),
                             ("alphabets", "Alphabet"), ("automata", "Automaton"), ("halls", "Hall"),
                             ("players", "Player")):
            part = getattr(importlib.import_module("placewords." + module), name)
            made += [part(*row) for row in CALLS[module][name]]
        for one in made:
            for value in vars(one).values():
                check(value)

    def test_results_do_not_depend_on_the_run(self):
        # Two runs, in which Python orders the members of sets of strings in different ways.
        text = (
            "import importlib\nfrom tests.test_whole import CALLS, calls_of_methods, shown\n"
            "for module, parts in CALLS.items():\n"
            "    for name, rows in parts.items():\n"
            "        part = getattr(importlib.import_module('placewords.' + module), name)\n"
            "        print(name, [shown(part(*row)) for row in rows])\n"
            "for one, name, row in calls_of_methods():\n"
            "    print(name, shown(getattr(one, name)(*row)))\n"
        )
        folder = os.path.dirname(os.path.dirname(os.path.abspath(__file__)))
        found = []
        for seed in ("1", "2"):
            run = subprocess.run([sys.executable, "-c", text], cwd=folder, capture_output=True, text=True,
                                 env={**os.environ, "PYTHONHASHSEED": seed, "PYTHONPATH": folder})
            self.assertEqual((run.returncode, run.stderr), (0, ""))
            found.append(run.stdout)
        self.assertEqual(found[0], found[1])
        self.assertGreater(found[0].count("\n"), 100)

    def test_errors_are_those_of_the_document(self):
        own = {name for name, part in vars(errors).items() if isinstance(part, type)}
        self.assertEqual(own, {
            "PlaceError", "InvalidAlphabet", "InvalidAutomaton", "NotClosed", "NotConnected", "TooLarge",
            "NotReady", "InvalidTeam", "ExpressionSyntaxError",
        })
        for name in own - {"PlaceError"}:
            self.assertEqual(getattr(errors, name).__bases__, (errors.PlaceError,))
