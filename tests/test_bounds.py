"""The constants of bounds.py."""

import unittest

from straylanes import bounds

VALUES = {
    "MAX_LANES": 10, "MAX_MODULUS": 1000000, "MAX_NUMBER": int("1" + "0" * 60), "MAX_STEPS": 30,
    "MAX_HULL": int("1" + "0" * 120), "MAX_LOTS": 252, "MAX_TOLD": 200, "MAX_INPUTS": 2000, "MAX_MIXED": 100,
    "MAX_FACES": 3000, "MAX_STAGES": 8, "MAX_CHAIN": 40, "MAX_RUNS": 8, "MAX_STOCK": 8, "MAX_PRICE": 999,
    "MAX_MORE": 200, "MAX_NAMES": 8, "MAX_NAME": 8, "MAX_NEST": 8, "BATCH": 12, "MAX_EDITS": 40,
}


class BoundsTest(unittest.TestCase):
    def test_each_constant_has_its_value(self):
        for name, value in VALUES.items():
            with self.subTest(name):
                self.assertIs(type(getattr(bounds, name)), int)
                self.assertEqual(getattr(bounds, name), value)

    def test_there_are_no_others(self):
        self.assertEqual({name for name in vars(bounds) if name.isupper()}, set(VALUES))


if __name__ == "__main__":
    unittest.main()
