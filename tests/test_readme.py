"""The examples of README.md."""

import doctest
import unittest
from pathlib import Path


class ReadmeTest(unittest.TestCase):
    def test_its_examples_hold(self):
        told = doctest.testfile(str(Path(__file__).resolve().parent.parent / "README.md"), module_relative=False)
        self.assertEqual(told.failed, 0)
        self.assertGreater(told.attempted, 0)


if __name__ == "__main__":
    unittest.main()
