"""Machines, words, stretches, rests, and which lanes agree and stray: A3 to A6, and A8."""

import unittest

from straylanes.machines import agreeing, machine_error, rests_of, stretch_error, straying, word_error
from tests.support import LaneTest, ODD_VALUES

TOP = 10 ** 60
MACHINES = ((2,), (7,), (10 ** 6,), (7, 11, 13), (4, 6, 9), (6, 6), (2, 10 ** 6), (10 ** 6,) * 10, (2,) * 10,
            (999983, 999979, 10, 10), tuple(range(2, 12)))
NUMBERS = (0, 1, -1, 2, -2, 35, 36, -36, 100, -100, 10 ** 6, 1 - 10 ** 6, 10 ** 59 + 7, TOP - 1, TOP, -TOP, 1 - TOP)


class MachineErrorTest(LaneTest):
    def test_machines(self):
        for machine in MACHINES:
            self.assert_same(self.tell(machine_error, value=machine), None)

    def test_form(self):
        values = (None, True, 7, "7", "7 11", (), [], {}, [7], [7, 11, 13], {7: 11}, {0: 7, 1: 11}, (7,) * 11,
                  (1,) * 11, (None,) * 11, (7,) * 4000, 10 ** 399)
        for value in values:
            self.assert_same(self.tell(machine_error, value=value), "form")

    def test_no_modulus(self):
        wrong = (1, 0, -1, -7, 10 ** 6 + 1, 10 ** 399, True, False, None, "7", "", (), (7,), [], [7], {}, {7: 7})
        for item in wrong:
            self.assert_same(self.tell(machine_error, value=(item,)), ("modulus", 0))
            self.assert_same(self.tell(machine_error, value=(7, item)), ("modulus", 1))
            self.assert_same(self.tell(machine_error, value=(2,) * 9 + (item,)), ("modulus", 9))
            self.assert_same(self.tell(machine_error, value=(2, 10 ** 6, item, 5, 1)), ("modulus", 2))

    def test_the_first_lane_that_applies(self):
        self.assert_same(self.tell(machine_error, value=(7, 1, None)), ("modulus", 1))
        self.assert_same(self.tell(machine_error, value=(True, 7, 1)), ("modulus", 0))
        self.assert_same(self.tell(machine_error, value=(10 ** 6, 10 ** 6 + 1, 1)), ("modulus", 1))

    def test_any_value(self):
        for value in ODD_VALUES:
            told = self.tell(machine_error, value=value)
            if isinstance(value, tuple) and 1 <= len(value) <= 10:
                self.assert_same(told, ("modulus", 0) if value != (7,) else None)
            else:
                self.assert_same(told, "form")


class WordErrorTest(LaneTest):
    def error(self, machine, value):
        return self.tell(word_error, machine=machine, value=value)

    def test_words(self):
        for machine in MACHINES:
            self.assert_same(self.error(machine, (0,) * len(machine)), None)
            self.assert_same(self.error(machine, tuple(modulus - 1 for modulus in machine)), None)
            self.assert_same(self.error(machine, (None,) * len(machine)), None)
        for word in ((None, 10, 12), (6, None, 12), (6, 10, None), (None, None, 12), (0, None, None)):
            self.assert_same(self.error((7, 11, 13), word), None)

    def test_form(self):
        for value in (None, True, 0, "000", "", (), [], {}, (0,), (0, 0), (0,) * 4, [0, 0, 0], [None] * 3,
                      {0: 0, 1: 0, 2: 0}, (7, 11), (True,) * 4, (None,) * 2, (None,) * 4):
            self.assert_same(self.error((7, 11, 13), value), "form")
        self.assert_same(self.error((7,), ()), "form")
        self.assert_same(self.error((7,), (0, 0)), "form")
        self.assert_same(self.error((2,) * 10, (0,) * 9), "form")
        self.assert_same(self.error((2,) * 10, (0,) * 11), "form")

    def test_no_rest(self):
        machine = (7, 11, 7)
        wrong = (-1, -7, 10 ** 399, True, False, "0", "-", "", (), (0,), (None,), [], [0], {}, {0: 0})
        for item in wrong:
            self.assert_same(self.error(machine, (item, 0, 0)), ("rest", 0))
            self.assert_same(self.error(machine, (None, item, 0)), ("rest", 1))
            self.assert_same(self.error(machine, (0, 10, item)), ("rest", 2))

    def test_each_rest_is_below_its_own_modulus(self):
        self.assert_same(self.error((6, 4), (5, 3)), None)
        self.assert_same(self.error((6, 4), (3, 5)), ("rest", 1))
        self.assert_same(self.error((6, 4), (6, 4)), ("rest", 0))
        self.assert_same(self.error((6, 4), (5, 4)), ("rest", 1))
        self.assert_same(self.error((4, 6), (5, 3)), ("rest", 0))
        self.assert_same(self.error((10 ** 6,), (10 ** 6 - 1,)), None)
        self.assert_same(self.error((10 ** 6,), (10 ** 6,)), ("rest", 0))
        self.assert_same(self.error((2,), (2,)), ("rest", 0))

    def test_the_first_lane_that_applies(self):
        self.assert_same(self.error((7, 11, 13), (None, 11, 13)), ("rest", 1))
        self.assert_same(self.error((7, 11, 13), (True, -1, 13)), ("rest", 0))

    def test_any_value(self):
        for value in ODD_VALUES:
            told = self.error((7, 11), value)
            if isinstance(value, tuple) and len(value) == 2:
                self.assert_same(told, None if value == (None, None) else ("rest", 0))
            else:
                self.assert_same(told, "form")


class StretchErrorTest(LaneTest):
    def test_stretches(self):
        for value in ((0, 9), (0, 0), (5, 5), (-5, -5), (-9, -5), (-9, 5), (-TOP, TOP), (TOP, TOP), (-TOP, -TOP),
                      (TOP - 1, TOP), (-TOP, 1 - TOP), (0, TOP), (-TOP, 0)):
            self.assert_same(self.tell(stretch_error, value=value), None)

    def test_form(self):
        values = (None, True, 0, "", "0 9", "09", (), [], {}, [0, 9], {0: 9, 1: 9}, (0,), (0, 5, 9), (0, 0, 0),
                  ((0, 9),),
                  ((0, 9), (0, 9)), ((0,), (9,)), ([0], [9]), ("0", "9"), ("0", 9), (0, "9"), (None, 9), (0, None),
                  (None, None), ({}, {}))
        for value in values:
            self.assert_same(self.tell(stretch_error, value=value), "form")

    def test_bools_are_no_numbers(self):
        for value in ((True, 9), (0, True), (False, 9), (-1, False), (False, True), (True, True)):
            self.assert_same(self.tell(stretch_error, value=value), "form")

    def test_beyond_what_a_number_may_be(self):
        for value in ((0, TOP + 1), (-TOP - 1, 0), (TOP, TOP + 1), (TOP + 1, TOP + 1), (-TOP - 1, -TOP - 1),
                      (-TOP - 1, TOP + 1), (-TOP - 1, -TOP), (0, 10 ** 399)):
            self.assert_same(self.tell(stretch_error, value=value), "form")

    def test_empty(self):
        for value in ((9, 0), (1, 0), (0, -1), (TOP, -TOP), (TOP, TOP - 1), (1 - TOP, -TOP), (-5, -9)):
            self.assert_same(self.tell(stretch_error, value=value), "empty")

    def test_form_comes_ahead_of_empty(self):
        for value in ((9, False), (True, 0), (TOP + 1, 0), (0, -TOP - 1), (9, 0, 0), [9, 0]):
            self.assert_same(self.tell(stretch_error, value=value), "form")

    def test_any_value(self):
        for value in ODD_VALUES:
            self.assert_same(self.tell(stretch_error, value=value), "form")


class RestsTest(LaneTest):
    def test_told_rests(self):
        self.assert_same(self.tell(rests_of, machine=(7, 11, 13), number=0), (0, 0, 0))
        self.assert_same(self.tell(rests_of, machine=(7, 11, 13), number=-100), (5, 10, 4))
        self.assert_same(self.tell(rests_of, machine=(6, 4, 6), number=-7), (5, 1, 5))
        self.assert_same(self.tell(rests_of, machine=(3, 7, 10 ** 6), number=TOP), (1, 1, 0))
        self.assert_same(self.tell(rests_of, machine=(3, 7, 10 ** 6), number=-TOP), (2, 6, 0))
        self.assert_same(self.tell(rests_of, machine=(10 ** 6,), number=-1), (10 ** 6 - 1,))

    def test_a_rest_is_below_its_modulus_and_differs_by_multiples(self):
        for machine in MACHINES:
            for number in NUMBERS:
                rests = self.tell(rests_of, machine=machine, number=number)
                self.assert_same(word_error(machine, rests), None)
                for modulus, rest in zip(machine, rests):
                    self.assertEqual((number - rest) // modulus * modulus, number - rest)

    def test_two_numbers_have_one_word_exactly_if_each_modulus_divides_their_difference(self):
        for machine in ((4, 6), (6, 6), (2, 3, 5), (7,), (4, 6, 9)):
            for one in range(-40, 41):
                for other in range(-40, 41, 3):
                    alike = all((one - other) % modulus == 0 for modulus in machine)
                    self.assertEqual(rests_of(machine, one) == rests_of(machine, other), alike)

    def test_rests_of_sums_differences_and_products_are_told_by_both_rests(self):
        for machine in MACHINES:
            for one in NUMBERS[:12]:
                for other in NUMBERS[:12]:
                    rests = list(zip(machine, rests_of(machine, one), rests_of(machine, other)))
                    self.assert_same(rests_of(machine, one + other), tuple((a + b) % m for m, a, b in rests))
                    self.assert_same(rests_of(machine, one - other), tuple((a - b) % m for m, a, b in rests))
                    self.assert_same(rests_of(machine, one * other), tuple(a * b % m for m, a, b in rests))


class AgreeingTest(LaneTest):
    def both(self, machine, word, number):
        return (self.tell(agreeing, machine=machine, word=word, number=number),
                self.tell(straying, machine=machine, word=word, number=number))

    def test_told_words(self):
        machine = (7, 11, 13)
        self.assert_same(self.both(machine, (0, 0, 0), 0), ((0, 1, 2), ()))
        self.assert_same(self.both(machine, (1, 1, 1), 0), ((), (0, 1, 2)))
        self.assert_same(self.both(machine, (6, 0, 12), -1), ((0, 2), (1,)))
        self.assert_same(self.both(machine, (None, 0, 12), -1), ((2,), (1,)))
        self.assert_same(self.both(machine, (6, 10, None), -1), ((0, 1), ()))
        self.assert_same(self.both(machine, (None, 0, None), 0), ((1,), ()))
        self.assert_same(self.both(machine, (None, 1, None), 0), ((), (1,)))
        self.assert_same(self.both((3, 7, 10 ** 6), (1, 6, 0), TOP), ((0, 2), (1,)))
        self.assert_same(self.both((3, 7, 10 ** 6), (1, 6, 0), -TOP), ((1, 2), (0,)))

    def test_silent_lanes_do_neither(self):
        for number in NUMBERS:
            self.assert_same(self.both((7, 11, 13), (None, None, None), number), ((), ()))
            self.assert_same(self.both((2,), (None,), number), ((), ()))

    def test_moduli_alike_and_with_common_divisors(self):
        self.assert_same(self.both((6, 6), (4, 5), 10), ((0,), (1,)))
        self.assert_same(self.both((4, 6, 4, 9), (2, 4, 0, 1), 10), ((0, 1, 3), (2,)))
        self.assert_same(self.both((4, 6, 4, 9), (2, 4, None, None), -2), ((0, 1), ()))

    def test_both_together_are_those_that_speak(self):
        for machine in MACHINES:
            for number in NUMBERS:
                other = number - 1 if number == TOP else number + 1
                word = list(rests_of(machine, other))
                word[::3] = [None] * len(word[::3])
                speaking = tuple(lane for lane, item in enumerate(word) if item is not None)
                self.assert_same(self.both(machine, tuple(word), other), (speaking, ()))
                self.assert_same(self.both(machine, tuple(word), number), ((), speaking))
                word[-1] = number % machine[-1]
                last = len(machine) - 1
                agree, stray = self.both(machine, tuple(word), number)
                self.assert_same(agree, (last,))
                self.assert_same(stray, tuple(lane for lane in range(last) if word[lane] is not None))


if __name__ == "__main__":
    unittest.main()
