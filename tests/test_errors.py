"""The errors: their base classes and the one value of each."""

import copy
import pickle
import unittest

from helpers import OBJECTS
from turnpicks import errors
from turnpicks.errors import PickError

VALUES = {
    "InvalidCounts": "counts", "InvalidLists": "index", "InvalidList": "ranking", "InvalidSequence": "index",
    "InvalidPlayer": "player", "InvalidKind": "kind", "InvalidBundle": "index", "InvalidSharing": "index",
    "InvalidCourse": "index", "InvalidOrder": "index", "InvalidPicks": "index", "InvalidNumber": "name",
    "InvalidOpponent": "opponent", "InvalidValues": "index", "Mismatch": "name", "Misfit": "index",
    "CannotHave": "prefix", "TooLarge": "limit",
}


class TestErrors(unittest.TestCase):
    def test_there_are_eighteen_and_their_base(self):
        found = {name for name, value in vars(errors).items() if isinstance(value, type)}
        self.assertEqual(found, set(VALUES) | {"PickError"})
        self.assertEqual(len(VALUES), 18)

    def test_base_classes(self):
        self.assertEqual(PickError.__bases__, (ValueError,))
        for name in VALUES:
            self.assertEqual(getattr(errors, name).__bases__, (PickError,), name)

    def test_all_are_defined_in_this_file(self):
        for name in [*VALUES, "PickError"]:
            self.assertEqual(getattr(errors, name).__module__, "turnpicks.errors")

    def test_value_by_position_and_by_keyword(self):
        for name, word in VALUES.items():
            for value in OBJECTS:
                one = getattr(errors, name)(value)
                other = getattr(errors, name)(**{word: value})
                self.assertEqual(list(vars(one)), [word])
                self.assertEqual(list(vars(other)), [word])
                self.assertIs(getattr(one, word), value)
                self.assertIs(getattr(other, word), value)

    def test_exactly_one_value(self):
        for name, word in VALUES.items():
            with self.assertRaises(TypeError):
                getattr(errors, name)()
            with self.assertRaises(TypeError):
                getattr(errors, name)(1, 2)
            with self.assertRaises(TypeError):
                getattr(errors, name)(**{word + "s": 1})

    def test_caught_as_value_error(self):
        for name in VALUES:
            with self.assertRaises(ValueError):
                raise getattr(errors, name)(3)

    def test_message_and_copies_of_an_error_that_was_raised(self):
        for name, word in VALUES.items():
            error = getattr(errors, name)((4, "x"))
            self.assertEqual(str(error), "(4, 'x')")
            self.assertEqual(vars(copy.copy(error)), {word: (4, "x")})
            self.assertEqual(vars(pickle.loads(pickle.dumps(error))), {word: (4, "x")})


if __name__ == "__main__":
    unittest.main()
