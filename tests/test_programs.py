"""Programs, inputs, values and hulls: B1 to B3, and what B7 says of them."""

import unittest
from itertools import product

from straylanes.programs import hulls, inputs_error, program_error, result, run
from tests.samples import GREAT, SQUARE, WORDS, runs_by
from tests.support import LaneTest, ODD_VALUES

TOP = 10 ** 60
HIGH = 10 ** 120
ZERO = ("is", 0)


class ProgramErrorTest(LaneTest):
    def error(self, *steps):
        return self.tell(program_error, value=steps)

    def test_programs(self):
        programs = [SQUARE, GREAT, (("is", 5),), (("in", 0, 0),), (("in", -TOP, TOP),), (("is", TOP),), (("is", -TOP),),
                    (("in", TOP, TOP),), (("in", -TOP, -TOP),), (ZERO,) * 30, (("in", 0, 9),) * 30,
                    (("is", 1),) + tuple(("sum", place, place) for place in range(29)),
                    (ZERO,) + (("times", 0, 0),) * 29]
        programs += [(ZERO, (word, 0, 0)) for word in WORDS]
        programs += [(ZERO, ZERO, ZERO, (word, j, k)) for word in WORDS for j in range(3) for k in range(3)]
        for program in programs:
            self.assert_same(self.tell(program_error, value=program), None)
        for _, program, _, _ in runs_by(1, 100):
            self.assert_same(self.tell(program_error, value=program), None)

    def test_form(self):
        for value in (None, True, 5, "is 5", "", (), [], {}, [ZERO], [list(ZERO)], {"is": 5}, {0: ZERO}, (ZERO,) * 31,
                      [ZERO] * 30, (ZERO,) * 30 + (None,), (None,) * 31, ((),) * 31, 10 ** 399):
            self.assert_same(self.tell(program_error, value=value), "form")

    def test_form_comes_ahead_of_all_else(self):
        great = (("is", TOP), ("times", 0, 0), ("times", 1, 1))
        self.assert_same(self.tell(program_error, value=great + (ZERO,) * 28), "form")
        self.assert_same(self.tell(program_error, value=(("is", None),) + (ZERO,) * 30), "form")
        self.assert_same(self.tell(program_error, value=[("is", None)]), "form")

    def test_no_step_at_all(self):
        other_kinds = (None, True, 0, "", "in 0 9", "is", "is 5", (), [], {}, ["is", 5], {"is": 5})
        no_number = (("is",), ("is", 5, 5), ("is", 0, 0), ("is", 1, 2), ("is", None), ("is", "5"), ("is", (5,)),
                     ("is", [5]), ("is", {}), ("is", True), ("is", False), ("is", TOP + 1), ("is", -TOP - 1),
                     ("is", 10 ** 399))
        no_stretch = (("in",), ("in", 0), ("in", 0, 9, 9), ("in", (0, 9)), ("in", 9, 0), ("in", 1, 0), ("in", 0, -1),
                      ("in", True, 9), ("in", 0, True), ("in", False, 0), ("in", 0, False), ("in", None, 9),
                      ("in", 0, None), ("in", "0", "9"), ("in", [0], [9]), ("in", 0, TOP + 1), ("in", -TOP - 1, 0),
                      ("in", TOP + 1, TOP + 1))
        no_word = (("out", 0, 9), ("IN", 0, 9), ("In", 0, 9), ("in ", 0, 9), (" in", 0, 9), ("IS", 5), ("isx", 5),
                   ("i", 5), ("", 5), ("", 0, 0), (None, 5), (None, 0, 0), (True, 0, 9), (0, 0, 9), (("is",), 5),
                   (["is"], 5), ({"is": 0}, 5), ((), 0, 0), ([], 0, 0), ({}, 0, 0), (0, "is"), (5,), (5, 5),
                   ("div", 0, 0), ("add", 0, 0), ("SUM", 0, 0), ("Less", 0, 0), ("time", 0, 0), ("sums", 0, 0),
                   ("sum less times", 0, 0), ("sum,less", 0, 0))
        for item in other_kinds + no_number + no_stretch + no_word:
            self.assert_same(self.error(item), ("step", 0))
            self.assert_same(self.error(ZERO, item), ("step", 1))
            self.assert_same(self.error(*(ZERO,) * 29, item), ("step", 29))
            self.assert_same(self.error(ZERO, item, ZERO), ("step", 1))

    def test_places_that_are_not_ahead(self):
        for word in WORDS:
            self.assert_same(self.error((word, 0, 0)), ("step", 0))
            self.assert_same(self.error((word, -1, -1)), ("step", 0))
            self.assert_same(self.error((word, 0, 0), ZERO), ("step", 0))
            for wrong in (2, 3, 29, 30, -1, -2, 10 ** 399, True, False, None, "0", "", (0,), [0], {}, (), []):
                self.assert_same(self.error(ZERO, ZERO, (word, wrong, 0), ZERO, ZERO), ("step", 2))
                self.assert_same(self.error(ZERO, ZERO, (word, 0, wrong), ZERO, ZERO), ("step", 2))
                self.assert_same(self.error(ZERO, ZERO, (word, wrong, wrong), ZERO, ZERO), ("step", 2))
            self.assert_same(self.error(ZERO, ZERO, (word, 1, 1), ZERO), None)
            for step in ((word,), (word, 0), (word, 0, 0, 0), (word, (0, 0)), [word, 0, 0]):
                self.assert_same(self.error(ZERO, step), ("step", 1))

    def test_the_first_item_that_is_no_step(self):
        self.assert_same(self.error(ZERO, ("sum", 0, 1), ("sum", 0, 2)), ("step", 1))
        self.assert_same(self.error(ZERO, ("sum", 0, 0), ("sum", 0, 2), None), ("step", 2))
        self.assert_same(self.error(None, ("sum", 0, 1)), ("step", 0))

    def test_hulls_at_the_bound_and_beyond(self):
        top, low, one = ("is", TOP), ("is", -TOP), ("is", 1)
        self.assert_same(self.error(top, ("times", 0, 0)), None)
        self.assert_same(self.error(top, low, ("times", 0, 1)), None)
        self.assert_same(self.error(top, ("times", 0, 0), one, ("sum", 1, 2)), ("great", 3))
        self.assert_same(self.error(top, ("times", 0, 0), one, ("sum", 2, 1)), ("great", 3))
        self.assert_same(self.error(top, ("times", 0, 0), one, ("less", 1, 2)), None)
        self.assert_same(self.error(top, low, ("times", 0, 1), one, ("less", 2, 3)), ("great", 4))
        self.assert_same(self.error(top, low, ("times", 0, 1), one, ("sum", 2, 3)), None)
        self.assert_same(self.error(top, low, ("times", 0, 1), one, ("less", 3, 2)), ("great", 4))
        self.assert_same(self.error(top, ("times", 0, 0), ZERO, ("sum", 1, 2), ("times", 1, 2)), None)

    def test_one_end_is_enough(self):
        part = (("in", 0, TOP), ("is", TOP), ("times", 0, 1), ("is", 1))
        self.assert_same(self.error(*part, ("less", 2, 3)), None)
        self.assert_same(self.error(*part, ("less", 3, 2)), None)
        self.assert_same(self.error(*part, ("sum", 2, 3)), ("great", 4))
        part = (("in", -TOP, 0), ("is", TOP), ("times", 0, 1), ("is", 1))
        self.assert_same(self.error(*part, ("sum", 2, 3)), None)
        self.assert_same(self.error(*part, ("less", 2, 3)), ("great", 4))
        self.assert_same(self.error(*part, ("less", 3, 2)), ("great", 4))

    def test_hulls_count_though_no_value_lies_there(self):
        part = (("in", 0, TOP), ("is", TOP), ("times", 0, 1))
        self.assert_same(self.error(*part, ("less", 2, 2)), None)
        self.assert_same(self.error(*part, ("less", 2, 2), ("sum", 2, 2), ("sum", 3, 3)), ("great", 4))
        self.assert_same(self.error(*part, ("less", 2, 2), ("less", 3, 2)), ("great", 4))

    def test_no_step_comes_ahead_of_too_great(self):
        great = (("is", TOP), ("times", 0, 0), ("times", 1, 0))
        self.assert_same(self.error(*great, ZERO), ("great", 2))
        self.assert_same(self.error(*great, ("sum", 0, 4)), ("step", 3))
        self.assert_same(self.error(*great, ("times", 2, 2), ("times", 3, 3)), ("great", 2))
        self.assert_same(self.error(*great, ("times", 2, 2), None), ("step", 4))
        self.assert_same(self.error(("is", 2), *(("times", place, place) for place in range(29))), ("great", 9))

    def test_any_value(self):
        for value in ODD_VALUES:
            told = self.tell(program_error, value=value)
            is_row = isinstance(value, tuple) and 1 <= len(value) <= 30
            self.assert_same(told, ("step", 0) if is_row else "form")


class InputsErrorTest(LaneTest):
    program = (("in", -3, 3), ("is", 50), ("in", TOP, TOP), ("sum", 0, 2), ("in", -9, -5))

    def error(self, *value):
        return self.tell(inputs_error, program=self.program, value=value)

    def test_inputs(self):
        for value in ((-3, TOP, -9), (3, TOP, -5), (0, TOP, -7)):
            self.assert_same(self.error(*value), None)
        self.assert_same(self.tell(inputs_error, program=(("in", -TOP, TOP),), value=(TOP,)), None)
        self.assert_same(self.tell(inputs_error, program=(("in", -TOP, TOP),), value=(-TOP,)), None)

    def test_one_beyond_each_end(self):
        for value in ((-4, TOP, -9), (4, TOP, -9), (10 ** 399, TOP, -9), (-(10 ** 399), TOP, -9)):
            self.assert_same(self.error(*value), ("input", 0))
        for value in ((0, TOP + 1, -9), (0, TOP - 1, -9), (0, -TOP, -9)):
            self.assert_same(self.error(*value), ("input", 1))
        for value in ((0, TOP, -10), (0, TOP, -4), (0, TOP, 0)):
            self.assert_same(self.error(*value), ("input", 2))
        self.assert_same(self.tell(inputs_error, program=(("in", -TOP, TOP),), value=(TOP + 1,)), ("input", 0))

    def test_the_first_one_that_applies(self):
        self.assert_same(self.error(4, 0, 0), ("input", 0))
        self.assert_same(self.error(0, 0, 0), ("input", 1))

    def test_form(self):
        for value in ((), (0,), (0, TOP), (0, TOP, -9, 0), (0, 50, TOP, -9), (True, TOP, -9), (False, TOP, -9),
                      (0, True, -9), (0, TOP, False), (None, TOP, -9), ("0", TOP, -9), ((0,), TOP, -9),
                      ([0], TOP, -9), (0, TOP, {})):
            self.assert_same(self.error(*value), "form")
        for value in (None, True, 0, "", "0", [], {}, [0, TOP, -9], {0: 0, 1: TOP, 2: -9}):
            self.assert_same(self.tell(inputs_error, program=self.program, value=value), "form")

    def test_form_comes_ahead_of_input(self):
        for value in ((9, TOP, None), (9, True, -9), (9, TOP), (9, 9, 9, 9)):
            self.assert_same(self.error(*value), "form")

    def test_a_program_without_inputs(self):
        for program in ((("is", 5),), (("is", 5), ("sum", 0, 0))):
            self.assert_same(self.tell(inputs_error, program=program, value=()), None)
            for value in ((5,), (0,), (None,), [], {}, None, "", 0, False):
                self.assert_same(self.tell(inputs_error, program=program, value=value), "form")

    def test_any_value(self):
        for value in ODD_VALUES:
            self.assert_same(self.tell(inputs_error, program=self.program, value=value), "form")


class RunTest(LaneTest):
    def values(self, program, *inputs):
        values = self.tell(run, program=program, inputs=inputs)
        self.assert_same(self.tell(result, program=program, inputs=inputs), values[-1])
        return values

    def test_told_values(self):
        self.assert_same(self.values((("is", -5),)), (-5,))
        self.assert_same(self.values((("in", -5, 5),), -4), (-4,))
        part = (("in", -9, 9), ("in", -9, 9))
        for j, k, told in ((0, 0, (-14, 0, 49)), (0, 1, (-4, -10, -21)), (1, 0, (-4, 10, -21)), (1, 1, (6, 0, 9))):
            for word, value in zip(WORDS, told):
                self.assert_same(self.values(part + ((word, j, k),), -7, 3), (-7, 3, value))

    def test_inputs_go_in_order_to_their_own_steps(self):
        program = (("is", 1), ("in", 0, 9), ("sum", 0, 1), ("in", -9, 0), ("is", 0), ("in", 5, 6), ("times", 2, 3))
        self.assert_same(self.values(program, 4, -2, 6), (1, 4, 5, -2, 0, 6, -10))
        self.assert_same(self.values(program, 0, 0, 5), (1, 0, 1, 0, 0, 5, 0))

    def test_great_values(self):
        told = (TOP, HIGH, -TOP, -HIGH, 10 ** 59, -(10 ** 119), -(10 ** 119) - 10 ** 59)
        self.assert_same(self.values(GREAT, TOP, 10 ** 59), told)
        self.assert_same(self.values(GREAT, -TOP, 0), (-TOP, HIGH, -TOP, HIGH, 0, 0, 0))

    def test_thirty_steps(self):
        program = (("in", -1, 1),) + tuple(("sum", place, place) for place in range(29))
        self.assert_same(self.values(program, -1), tuple(-(2 ** place) for place in range(30)))

    def test_against_a_reckoner_of_its_own(self):
        for _, program, inputs, _ in runs_by(2, 200):
            self.assert_same(self.values(program, *inputs), tuple(values_by_text(program, inputs)))


def values_by_text(program, inputs):
    """Reckon each step anew, from the inputs on, as one sum of Python."""
    fed = iter(inputs)
    texts = []
    for step in program:
        if step[0] == "in":
            texts.append(f"({next(fed)})")
        elif step[0] == "is":
            texts.append(f"({step[1]})")
        else:
            sign = {"sum": "+", "less": "-", "times": "*"}[step[0]]
            texts.append(f"({eval(texts[step[1]] + sign + texts[step[2]])})")
    return [eval(text) for text in texts]


class HullsTest(LaneTest):
    def test_told_hulls(self):
        self.assert_same(self.tell(hulls, program=(("is", -5),)), ((-5, -5),))
        self.assert_same(self.tell(hulls, program=(("in", -5, 9),)), ((-5, 9),))
        self.assert_same(self.tell(hulls, program=(("in", -2, 3), ("sum", 0, 0), ("less", 0, 0), ("times", 0, 0))),
                         ((-2, 3), (-4, 6), (-5, 5), (-6, 9)))
        self.assert_same(self.tell(hulls, program=(("in", -TOP, TOP), ("times", 0, 0))), ((-TOP, TOP), (-HIGH, HIGH)))
        self.assert_same(self.tell(hulls, program=(("in", -TOP, 0), ("in", 0, TOP), ("times", 0, 1), ("times", 0, 0))),
                         ((-TOP, 0), (0, TOP), (-HIGH, 0), (0, HIGH)))

    def test_of_unlike_inputs_each_end_is_a_value(self):
        stretches = [(low, high) for low in range(-3, 4) for high in range(low, 4)]
        for (a, b), (c, d) in product(stretches, stretches):
            pairs = list(product(range(a, b + 1), range(c, d + 1)))
            sums, lesses, products = [p + q for p, q in pairs], [p - q for p, q in pairs], [p * q for p, q in pairs]
            program = (("in", a, b), ("in", c, d), ("sum", 0, 1), ("less", 0, 1), ("times", 0, 1))
            told = tuple((min(values), max(values)) for values in (sums, lesses, products))
            self.assert_same(hulls(program), ((a, b), (c, d)) + told)

    def test_of_one_step_twice_the_hull_knows_nothing(self):
        for low in range(-4, 5):
            for high in range(low, 5):
                one = (("in", low, high), ("sum", 0, 0), ("less", 0, 0), ("times", 0, 0))
                two = (("in", low, high), ("in", low, high), ("sum", 0, 1), ("less", 0, 1), ("times", 0, 1))
                self.assert_same(self.tell(hulls, program=one)[1:], self.tell(hulls, program=two)[2:])

    def test_each_value_lies_in_the_hull_of_its_step(self):
        for _, program, inputs, _ in runs_by(3, 200):
            told = self.tell(hulls, program=program)
            self.assertEqual(len(told), len(program))
            for (low, high), value in zip(told, run(program, inputs)):
                self.assertTrue(low <= value <= high, (program, inputs))


if __name__ == "__main__":
    unittest.main()
