"""Holds the names and arguments of the interface against what the document lists."""

import importlib
import inspect
import unittest

INTERFACE = {
    "alphabets": {
        "Alphabet": "places letters", "independent": "alphabet first second", "components": "alphabet letters",
    },
    "words": {
        "place_word": "alphabet word place", "equivalent": "alphabet first second",
        "swaps": "alphabet first second", "swapped": "alphabet word positions",
    },
    "forms": {"layers": "alphabet word", "least_form": "alphabet word", "is_least": "alphabet word"},
    "events": {
        "is_below": "alphabet word first second", "view": "alphabet word place", "newest": "alphabet word place",
    },
    "prefixes": {
        "rest": "alphabet first second", "common_prefix": "alphabet first second",
        "join": "alphabet first second", "order_count": "alphabet word",
    },
    "automata": {
        "Automaton": "letters start finals rows", "state_after": "automaton word", "accepts": "automaton word",
        "least": "automaton",
    },
    "mixtures": {
        "mixture": "kind first second", "other_words": "automaton", "difference": "first second",
        "gap": "first second",
    },
    "closure": {"closed_fault": "alphabet automaton", "least_words": "alphabet"},
    "products": {
        "product": "alphabet first second", "unconnected_word": "alphabet automaton",
        "repetition": "alphabet automaton",
    },
    "expressions": {
        "expression_automaton": "alphabet expression", "automaton_expression": "alphabet automaton",
    },
    "texts": {"format_expression": "expression", "parse_expression": "text"},
    "news": {"News": "alphabet"},
    "machines": {"Machines": "alphabet automaton", "run_apart": "machines alphabet word"},
    "players": {
        "queues_of": "alphabet word", "word_of": "alphabet queues", "Player": "alphabet machines queues",
    },
    "teams": {
        "Team": "alphabet sizes starts tables finals", "rank_of": "sizes combination", "combination_of": "sizes rank",
        "team_state": "team word", "team_accepts": "team word", "team_automaton": "team",
    },
    "ledgers": {"Ledger": "alphabet", "gathered": "alphabet word"},
    "actions": {"action": "automaton word", "actions": "automaton", "unsettled_word": "automaton"},
    "implied": {"place_set": "alphabet automaton place", "implied_word": "alphabet automaton"},
    "roots": {
        "root": "alphabet word", "commute": "alphabet first second", "crossing": "alphabet x y u v",
    },
    "cuts": {
        "is_cut": "alphabet word events", "holds": "alphabet word events conditions",
        "least_cut": "alphabet word conditions", "avoiding_order": "alphabet word conditions",
    },
    "claims": {"truths": "alphabet word claim"},
    "monitors": {"Monitors": "alphabet claim"},
    "counts": {
        "group_counts": "alphabet", "word_count": "alphabet length",
        "accepted_count": "alphabet automaton length",
    },
    "clocks": {
        "clocks": "alphabet word", "clock_below": "first second", "logs_of": "alphabet word",
        "word_of_logs": "alphabet logs",
    },
    "histories": {"History": "alphabet"},
    "merges": {"merge": "alphabet first second"},
    "finite": {"finite_automaton": "alphabet words"},
    "halls": {"Hall": "alphabet machines queues"},
    "ranks": {"rank_of_word": "alphabet word", "word_at_rank": "alphabet length rank"},
    "loops": {"same_loop": "alphabet first second"},
    "sides": {"place_product": "alphabet automata"},
    "choices": {
        "ChoiceTeam": "alphabet sizes starts tables finals", "choice_accepts": "team word",
        "choice_automaton": "team",
    },
    "claimsets": {"claim_automaton": "alphabet claim place"},
    "knowledge": {"is_true": "alphabet words word fact"},
    "filetexts": {
        "format_alphabet": "alphabet", "format_automaton": "automaton", "parse_alphabet": "text",
        "parse_automaton": "text",
    },
    "orders": {
        "accepted_order": "alphabet automaton word", "accepted_orders": "alphabet automaton word",
    },
    "times": {
        "ending_times": "alphabet word times", "least_time": "alphabet word times",
        "critical_chain": "alphabet word times",
    },
    "productteams": {"product_team": "alphabet automata"},
    "charts": {
        "Chart": "places messages", "line": "chart place", "surely_before": "chart first second",
        "races": "chart",
    },
    "learners": {"Learner": "alphabet"},
    "nearest": {"nearest_order": "alphabet automaton word"},
    "widths": {"widest": "alphabet word"},
}
METHODS = {
    "News": {"start": "", "meet": "letter states", "compare": "first second place"},
    "Machines": {"start": "", "meet": "letter states", "accepts": "states"},
    "Player": {
        "ready": "", "happen": "letter", "is_done": "", "is_stuck": "", "accepts": "", "happened": "",
    },
    "Ledger": {"happen": "letter", "known": "place letter"},
    "Monitors": {"start": "", "meet": "letter states", "truth": "state"},
    "History": {"happen": "letter", "undo": "number", "must_undo": "number", "events": "", "word": ""},
    "Hall": {
        "ask": "place", "hear": "message", "state": "place", "position": "place", "is_done": "", "crash": "place",
    },
    "Learner": {"question": "", "answer": "inside", "guess": "", "correct": "word"},
}


class InterfaceTest(unittest.TestCase):
    def parts(self):
        for name, parts in INTERFACE.items():
            module = importlib.import_module("placewords." + name)
            for part, arguments in parts.items():
                yield getattr(module, part), module, arguments

    def test_names_and_arguments(self):
        for part, module, arguments in self.parts():
            self.assertEqual(list(inspect.signature(part).parameters), arguments.split(), part)

    def test_that_they_are_defined_where_they_are_listed(self):
        for part, module, _ in self.parts():
            self.assertEqual(part.__module__, module.__name__)

    def test_methods_stand_in_their_own_classes(self):
        found = {part.__name__: part for part, _, _ in self.parts() if inspect.isclass(part)}
        for name, methods in METHODS.items():
            for method, arguments in methods.items():
                own = vars(found[name])[method]
                self.assertEqual(list(inspect.signature(own).parameters), ["self"] + arguments.split())
