"""The error classes: how they are made, what they keep, what they stand under."""

import unittest

from straylanes import errors
from tests.support import ODD_VALUES

PLAIN = ("Unfit", "BadText", "Strayed", "NoPlan", "NoLot", "BadBatch", "TooManyEdits", "NothingToUndo",
         "NothingToRedo")
KEEPING = {
    "BadMachine": "error", "BadProgram": "error", "BadBook": "error", "Clash": "lanes", "Unsure": "numbers",
    "TooMany": "limit", "NoName": "given", "Taken": "given", "Rejected": "index", "NoVersion": "given",
    "BadLog": "place",
}


class ErrorsTest(unittest.TestCase):
    def test_lane_error_is_a_value_error(self):
        self.assertEqual(errors.LaneError.__bases__, (ValueError,))
        self.assertEqual(errors.LaneError.__module__, "straylanes.errors")

    def test_each_is_directly_under_lane_error(self):
        for name in PLAIN + tuple(KEEPING):
            with self.subTest(name):
                made = getattr(errors, name)
                self.assertEqual(made.__bases__, (errors.LaneError,))
                self.assertEqual(made.__name__, name)
                self.assertEqual(made.__module__, "straylanes.errors")

    def test_none_is_another_one(self):
        names = PLAIN + tuple(KEEPING)
        self.assertEqual(len({getattr(errors, name) for name in names}), 20)
        classes = {name for name, value in vars(errors).items() if isinstance(value, type)}
        self.assertEqual(classes, set(names) | {"LaneError"})

    def test_those_without_arguments(self):
        for name in PLAIN:
            with self.subTest(name):
                with self.assertRaises(errors.LaneError) as caught:
                    raise getattr(errors, name)()
                self.assertIs(type(caught.exception), getattr(errors, name))
                self.assertEqual(vars(caught.exception), {})

    def test_those_with_one_keep_it_as_it_was_passed(self):
        for name, kept in KEEPING.items():
            for value in ODD_VALUES + (("modulus", 1), (0, 1), [[7], {"a": None}]):
                with self.subTest(name, value=repr(value)[:50]):
                    ahead = repr(value)
                    for error in (getattr(errors, name)(value), getattr(errors, name)(**{kept: value})):
                        self.assertIs(getattr(error, kept), value)
                        self.assertEqual(list(vars(error)), [kept])
                        self.assertEqual(repr(getattr(error, kept)), ahead)

    def test_each_keeps_its_own(self):
        one, other = errors.NoName("a"), errors.NoName("b")
        self.assertEqual((one.given, other.given), ("a", "b"))

    def test_those_with_one_are_raised_and_caught(self):
        for name, kept in KEEPING.items():
            with self.subTest(name):
                with self.assertRaises(ValueError) as caught:
                    raise getattr(errors, name)((1, "x"))
                self.assertIs(type(caught.exception), getattr(errors, name))
                self.assertEqual(getattr(caught.exception, kept), (1, "x"))


if __name__ == "__main__":
    unittest.main()
