"""The definitions, and the errors of arguments that the functions of several stages have in common."""

import unittest

import wrong
from helpers import OBJECTS, error_of, objects_but, same
from turnpicks import checks
from turnpicks.errors import InvalidBundle, InvalidCourse, InvalidKind, InvalidList, InvalidOpponent, InvalidPicks
from turnpicks.errors import Mismatch

HUGE = 10 ** 5000


class TestDefinitions(unittest.TestCase):
    def test_integers(self):
        right = [value for value in OBJECTS if checks.is_integer(value)]
        self.assertEqual(right, [0, -1, HUGE, -HUGE])
        self.assertFalse(any(isinstance(value, bool) for value in right))

    def test_kinds(self):
        self.assertEqual([kind for kind in range(-2, 5) if checks.is_kind(kind, 3)], [0, 1, 2])
        self.assertFalse(any(checks.is_kind(value, 3) for value in objects_but(0)))
        self.assertFalse(any(checks.is_kind(value, 0) for value in OBJECTS))

    def test_bundles(self):
        for right in [(), (0,), (1, 2), (HUGE, 0, 5), (3,) * 61]:
            self.assertTrue(checks.is_bundle(right, len(right)))
            self.assertFalse(checks.is_bundle(right, len(right) + 1))
            self.assertFalse(checks.is_bundle(list(right), len(right)))
        self.assertFalse(any(checks.is_bundle(value, 1) for value in objects_but((1,))))
        for value in objects_but(0, HUGE):
            self.assertFalse(checks.is_bundle((1, value), 2))

    def test_counts(self):
        for right in [(), (0,), (HUGE, 0), (0,) * 60, (HUGE,) * 60]:
            self.assertIsNone(checks.check_counts(right))
        for value, error, told in wrong.wrong_counts():
            found, kept = error_of(checks.check_counts, value)
            self.assertIs(found, error)
            self.assertIs(kept["counts"], told)

    def test_lists(self):
        for right in [(), (0,), (1, 0), (2, 0, 1), tuple(range(60))]:
            self.assertIsNone(checks.check_lists((right, right[::-1]), len(right)))
            self.assertIsNone(checks.check_ranking(right, len(right)))
        for value, error, told in wrong.wrong_lists():
            self.assertEqual(error_of(checks.check_lists, value, 2), (error, {"index": told}))

    def test_single_list(self):
        for value in OBJECTS + [[0, 1], (0,), (0, 0), (1, 2), (0, True), (0, 1, 2)]:
            found, kept = error_of(checks.check_ranking, value, 2)
            self.assertIs(found, InvalidList)
            self.assertIs(kept["ranking"], value)

    def test_sequences(self):
        block = ("A" * 20, HUGE)
        for right in [[], (), [block] * 200, (block,) * 200, [("B", 1)]]:
            self.assertIsNone(checks.check_sequence(right))
        for value, error, told in wrong.wrong_sequence():
            self.assertEqual(error_of(checks.check_sequence, value), (error, {"index": told}))

    def test_players(self):
        self.assertIsNone(checks.check_player("A"))
        self.assertIsNone(checks.check_player("B"))
        for value, error, told in wrong.wrong_player():
            found, kept = error_of(checks.check_player, value)
            self.assertIs(found, error)
            self.assertTrue(same(kept["player"], told))

    def test_single_kind(self):
        for kind in range(3):
            self.assertIsNone(checks.check_kind(kind, 3))
        for value in objects_but(0) + [3, 10 ** 30, "1", (1,)]:
            found, kept = error_of(checks.check_kind, value, 3)
            self.assertIs(found, InvalidKind)
            self.assertIs(kept["kind"], value)

    def test_courses(self):
        row = ("AB" * 10, (1,) * 20, HUGE)
        for right in [[], [row] * 1000, [("B", (0,), 1)]]:
            self.assertIsNone(checks.check_course(right, 2))
        for value, error, told in wrong.wrong_course():
            self.assertEqual(error_of(checks.check_course, value, 2), (error, {"index": told}))
        self.assertEqual(error_of(checks.check_course, [("A", (0,), 1)], 0), (InvalidCourse, {"index": 0}))

    def test_numbers(self):
        for least in (0, 1):
            self.assertIsNone(checks.check_number(least, "picks", least))
            self.assertIsNone(checks.check_number(HUGE, "picks", least))
            for value, error, told in wrong.wrong_number("picks", least):
                self.assertEqual(error_of(checks.check_number, value, "picks", least), (error, {"name": told}))

    def test_items_for_all_picks(self):
        self.assertIsNone(checks.check_enough_items((), []))
        self.assertIsNone(checks.check_enough_items((HUGE, 1), [("A", HUGE), ("B", 1)]))
        call = error_of(checks.check_enough_items, (HUGE, 1), [("A", HUGE), ("BA", 1)])
        self.assertEqual(call, (Mismatch, {"name": "sequence"}))

    def test_exactly_all_items(self):
        self.assertIsNone(checks.check_all_items((), []))
        self.assertIsNone(checks.check_all_items((HUGE, 1), [("A", HUGE), ("B", 1)]))
        for sequence in ([], [("A", HUGE)], [("A", HUGE), ("BA", 1)]):
            call = error_of(checks.check_all_items, (HUGE, 1), sequence)
            self.assertEqual(call, (Mismatch, {"name": "sequence"}))

    def test_lists_of_any_number_of_kinds(self):
        for kinds in (0, 1, 2, 59, 60):
            right = tuple(range(kinds))
            self.assertEqual(checks.kinds_in(right), kinds)
            self.assertIsNone(checks.check_own_lists((right, right[::-1])))
        for value, error, told in wrong.wrong_own_lists():
            self.assertEqual(error_of(checks.check_own_lists, value), (error, {"index": told}))

    def test_sharings(self):
        for right in [((0, 0), (0, 0)), ((HUGE, 0), (1, 2))]:
            self.assertIsNone(checks.check_sharing(right, 2))
        self.assertIsNone(checks.check_sharing(((), ()), 0))
        for value, error, told in wrong.wrong_sharing():
            self.assertEqual(error_of(checks.check_sharing, value, 2), (error, {"index": told}))

    def test_parts(self):
        for right in [(0, 0), (2, 1), (1, 0)]:
            self.assertIsNone(checks.check_part(right, (2, 1)))
        for value, error, told in wrong.wrong_part():
            self.assertEqual(error_of(checks.check_part, value, (2, 1)), (error, {"index": told}))
        self.assertEqual(error_of(checks.check_part, (0,), ()), (InvalidBundle, {"index": -1}))

    def test_opponents(self):
        for right in ("plain", "hostile", "thinking"):
            self.assertIsNone(checks.check_opponent(right))
        for value, error, told in wrong.wrong_opponent():
            found, kept = error_of(checks.check_opponent, value)
            self.assertIs(found, InvalidOpponent)
            self.assertTrue(same(kept["opponent"], told))

    def test_picks(self):
        for right in [[], (), [0, 1], (1, 0, 0, 1), [1] * 4]:
            self.assertIsNone(checks.check_picks(right, (200, 100), 4))
        for value, error, told in wrong.wrong_picks():
            self.assertEqual(error_of(checks.check_picks, value, (200, 100), 4), (error, {"index": told}))
        self.assertIsNone(checks.check_picks([0] * 200, (HUGE,), HUGE))
        self.assertEqual(error_of(checks.check_picks, [0] * 201, (HUGE,), HUGE), (InvalidPicks, {"index": -1}))
        self.assertEqual(error_of(checks.check_picks, [0] * 5, (HUGE,), 4), (InvalidPicks, {"index": -1}))

    def test_values_of_both_players(self):
        lists = (0, 1), (1, 0)
        for right in [((5, 3), (1, 2)), ((1, 0), (0, 1)), ((HUGE, 0), (0, HUGE))]:
            self.assertIsNone(checks.check_both_values(right, lists))
        self.assertIsNone(checks.check_both_values(((), ()), ((), ())))
        self.assertIsNone(checks.check_both_values(((0,), (3,)), ((0,), (0,))))
        for value, error, told in wrong.wrong_both_values():
            self.assertEqual(error_of(checks.check_both_values, value, lists), (error, {"index": told}))


if __name__ == "__main__":
    unittest.main()
