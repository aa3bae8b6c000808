"""The examples of DOC.md, written as they stand there."""

import unittest

from tests.support import LaneTest, Outcome

EXAMPLES = r"""
>>> from straylanes.machines import agreeing, machine_error, rests_of, stretch_error, straying, word_error
>>> machine = (7, 11, 13)
>>> [machine_error(value) for value in (machine, (6, 6, 10 ** 6), (), [7], (7,) * 11, (7, 1), (True,), (7, 10 ** 6 + 1))]
[None, None, 'form', 'form', 'form', ('modulus', 1), ('modulus', 0), ('modulus', 1)]
>>> [word_error(machine, value) for value in ((3, None, 5), (None,) * 3, (3, 5), [3, 0, 0], (7, 0, 0), (0, -1, 13), (0, 0, True))]
[None, None, 'form', 'form', ('rest', 0), ('rest', 1), ('rest', 2)]
>>> [stretch_error(value) for value in ((0, 9), (-5, -5), (9, 0), (0,), [0, 9], (0, True), (0, 10 ** 60 + 1))]
[None, None, 'empty', 'form', 'form', 'form', 'form']

>>> rests_of(machine, 100), rests_of(machine, -1), rests_of((4, 6, 4), 10)
((2, 1, 9), (6, 10, 12), (2, 4, 2))
>>> agreeing(machine, (2, None, 4), 100), straying(machine, (2, None, 4), 100), straying(machine, (2, 1, 9), 100), agreeing(machine, (None,) * 3, 100)
((0,), (2,), (), ())
"""


class ExamplesTest(LaneTest):
    def test_each_comes_to_what_is_told(self):
        names, checked = {}, 0
        rows = [row for row in EXAMPLES.splitlines() if row] + [">>> "]
        for row, told in zip(rows, rows[1:]):
            source = row.removeprefix(">>> ")
            if source == row:
                continue
            if told.startswith(">>> "):
                exec(source, names)
                continue
            with self.subTest(source):
                self.assertEqual(Outcome(eval, (source, names), {}).written(), told)
                checked += 1
        self.assertEqual(checked, sum(not row.startswith(">>> ") for row in rows))


if __name__ == "__main__":
    unittest.main()
