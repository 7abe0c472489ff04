"""The interface as a whole: the names of all functions, methods and arguments, and where they are defined."""

import importlib
import inspect
import unittest

GAME = ["counts", "lists", "sequence"]
SIDE = ["counts", "ranking", "sequence", "player"]
COURSE = ["counts", "course", "player"]
PAIR = ["lists", "sharing"]

FUNCTIONS = {
    "turns": {
        "length": ["sequence"], "turns_among": ["sequence", "player", "picks"],
        "pick_time": ["sequence", "player", "number"], "reversed_sequence": ["sequence"],
        "exchanged_sequence": ["sequence"], "rest_of": ["sequence", "picks"], "first_difference": ["one", "other"],
    },
    "plain": {
        "plain_game": GAME, "plain_course": GAME, "play_course": ["counts", "course"],
        "check_plain": [*GAME, "course"],
    },
    "bundles": {
        "caps": SIDE, "can_have": [*SIDE, "bundle"], "best_bundle": [*GAME, "player"], "pick_order": [*SIDE, "bundle"],
        "check_order": [*SIDE, "order"], "exchanges": [*SIDE, "bundle", "kind"], "best_value": [*SIDE, "values"],
        "check_value": [*SIDE, "values", "answer"],
    },
    "hostile": {
        "sure_counts": SIDE, "sure_bundle": SIDE, "is_sure": [*SIDE, "wanted"], "safe_picks": SIDE,
        "tight_picks": SIDE, "sure_after": [*SIDE, "kind"],
    },
    "thinking": {
        "end_of": GAME, "end_course": GAME, "best_first_picks": GAME, "is_end": [*GAME, "bundles"], "turned": GAME,
    },
    "sharings": {
        "compare": ["ranking", "one", "other"], "common_swap": PAIR, "improved": PAIR, "first_sequence": PAIR,
        "last_sequence": PAIR, "is_sequence_of": [*PAIR, "sequence"], "count_sequences": PAIR,
        "latest_turns": ["counts", "ranking", "player", "wanted"],
    },
    "led_back": {
        "misfit": COURSE, "fits": [*COURSE, "ranking"], "parents": COURSE, "list_count": COURSE,
        "place_range": [*COURSE, "kind"], "told_by": [*COURSE, "kind"], "next_shares": COURSE,
        "list_at": [*COURSE, "number"], "list_number": [*COURSE, "ranking"],
    },
    "search": {
        "search_value": ["counts", "lists", "values", "sequence", "player", "opponent"],
        "search_end": ["counts", "lists", "values", "sequence"],
        "search_picks": ["counts", "lists", "values", "sequence", "opponent"],
    },
}
METHODS = {
    "__init__": ["counts", "lists", "sequence", "picks"], "bundles": [], "items_left": [],
    "standings": ["player", "opponent"], "losses": ["player", "opponent"], "first_loss": ["player", "opponent"],
}


class TestInterface(unittest.TestCase):
    def test_functions(self):
        for name, functions in FUNCTIONS.items():
            module = importlib.import_module("turnpicks." + name)
            for word, arguments in functions.items():
                function = getattr(module, word)
                self.assertTrue(inspect.isfunction(function), word)
                self.assertEqual(function.__module__, module.__name__)
                self.assertEqual(list(inspect.signature(function).parameters), arguments, word)

    def test_record(self):
        module = importlib.import_module("turnpicks.records")
        self.assertEqual(module.Record.__module__, module.__name__)
        for word, arguments in METHODS.items():
            method = vars(module.Record)[word]
            self.assertEqual(list(inspect.signature(method).parameters)[1:], arguments, word)

    def test_no_argument_has_a_default(self):
        for name, functions in FUNCTIONS.items():
            for word in functions:
                function = getattr(importlib.import_module("turnpicks." + name), word)
                for one in inspect.signature(function).parameters.values():
                    self.assertIs(one.default, inspect.Parameter.empty)
                    self.assertEqual(one.kind, inspect.Parameter.POSITIONAL_OR_KEYWORD)


if __name__ == "__main__":
    unittest.main()
