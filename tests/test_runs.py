"""Programs in lanes, and strays: B4, B5, and what B7 says of them."""

import unittest

from straylanes.machines import rests_of, word_error
from straylanes.programs import run
from straylanes.runs import lane_words, strayed_words, strayers, strays_error
from tests.samples import GREAT, MACHINES, SQUARE, WORDS, runs_by
from tests.support import LaneTest, ODD_VALUES

TOP = 10 ** 60


class LaneWordsTest(LaneTest):
    def words(self, machine, program, *inputs):
        return self.tell(lane_words, machine=machine, program=program, inputs=inputs)

    def test_told_words(self):
        self.assert_same(self.words((7,), (("is", -1),)), ((6,),))
        self.assert_same(self.words((7, 6, 6), (("in", -9, 0),), -8), ((6, 4, 4),))
        self.assert_same(self.words((4, 6), (("in", 0, 9), ("is", 9), ("less", 0, 1), ("times", 2, 2), ("sum", 3, 1)),
                                    2),
                         ((2, 2), (1, 3), (1, 5), (1, 1), (2, 4)))

    def test_the_rests_of_all_values_also_where_these_are_great(self):
        for inputs in ((TOP, 10 ** 59), (-TOP, 1), (123456789 ** 6, 987654321 ** 6), (0, 0)):
            for machine in MACHINES:
                told = tuple(tuple(value % modulus for modulus in machine) for value in run(GREAT, inputs))
                self.assert_same(self.words(machine, GREAT, *inputs), told)

    def test_the_rests_of_all_values(self):
        for machine, program, inputs, _ in runs_by(4, 200):
            words = self.words(machine, program, *inputs)
            self.assert_same(words, tuple(rests_of(machine, value) for value in run(program, inputs)))
            for word in words:
                self.assert_same(word_error(machine, word), None)


class StrayedWordsTest(LaneTest):
    machine = (7, 11, 13)

    def words(self, strays, machine=machine, program=SQUARE, inputs=(3,)):
        self.assert_same(strays_error(machine, program, strays), None)
        return self.tell(strayed_words, machine=machine, program=program, inputs=inputs, strays=strays)

    def test_no_strays(self):
        for machine, program, inputs, _ in runs_by(5, 50):
            self.assert_same(self.words((), machine, program, inputs), lane_words(machine, program, inputs))

    def test_one_stray(self):
        self.assert_same(self.words(((0, 0, 6),)), ((6, 3, 3), (1, 9, 9), (2, 2, 2), (6, 7, 7)))
        self.assert_same(self.words(((2, 1, 0),)), ((3, 3, 3), (2, 9, 0), (2, 2, 2), (0, 7, 11)))
        self.assert_same(self.words(((1, 2, 10),)), ((3, 3, 3), (2, 9, 9), (2, 10, 2), (0, 10, 7)))
        self.assert_same(self.words(((1, 3, 0),)), ((3, 3, 3), (2, 9, 9), (2, 2, 2), (0, 0, 7)))

    def test_many_strays(self):
        self.assert_same(self.words(((0, 0, 6), (0, 2, 0), (1, 1, 1), (2, 3, 12))),
                         ((6, 3, 3), (1, 1, 9), (0, 2, 2), (1, 10, 12)))
        self.assert_same(self.words(((0, 0, 0), (0, 1, 1), (0, 2, 2), (0, 3, 3))),
                         ((0, 3, 3), (1, 9, 9), (2, 2, 2), (3, 7, 7)))

    def test_in_a_lane_each_stray_holds_at_its_own_step(self):
        program = (("in", 0, 5), ("sum", 0, 0), ("sum", 1, 1), ("sum", 2, 2))
        self.assert_same(self.words(((0, 1, 3), (0, 3, 1)), (7, 7), program, (1,)), ((1, 1), (3, 2), (6, 4), (1, 1)))
        self.assert_same(self.words(((0, 1, 3), (1, 1, 4)), (7, 7), program, (1,)), ((1, 1), (3, 4), (6, 1), (5, 2)))

    def test_strays_that_put_out_what_is_reckoned(self):
        for machine, program, inputs, _ in runs_by(6, 50):
            words = lane_words(machine, program, inputs)
            for lane in range(len(machine)):
                strays = tuple((lane, step, word[lane]) for step, word in enumerate(words))
                self.assert_same(self.words(strays, machine, program, inputs), words)

    def test_steps_ahead_and_other_lanes_are_unchanged(self):
        right = lane_words(self.machine, SQUARE, (3,))
        for lane in range(3):
            for step in range(4):
                for rest in range(self.machine[lane]):
                    words = self.words(((lane, step, rest),))
                    self.assert_same(words[:step], right[:step])
                    self.assert_same(words[step][lane], rest)
                    for other in {0, 1, 2} - {lane}:
                        self.assert_same([word[other] for word in words], [word[other] for word in right])

    def test_a_last_rest_can_be_right_all_the_same(self):
        self.assert_same(self.words(((0, 0, 4),))[-1], rests_of(self.machine, 7))

    def test_lanes_that_are_no_strayers_have_the_rests_of_the_values(self):
        for machine, program, inputs, strays in runs_by(7, 200):
            words = self.words(strays, machine, program, inputs)
            for word, value in zip(words, run(program, inputs)):
                for lane in set(range(len(machine))) - set(strayers(strays)):
                    self.assert_same(word[lane], value % machine[lane])

    def test_against_a_reckoner_of_its_own(self):
        for machine, program, inputs, strays in runs_by(8, 200):
            told = tuple(tuple(put_out(machine, program, inputs, strays, lane, step) for lane in range(len(machine)))
                         for step in range(len(program)))
            self.assert_same(self.words(strays, machine, program, inputs), told)


def put_out(machine, program, inputs, strays, lane, step):
    """Reckon one rest anew, asking for those that it rests on."""
    for stray in strays:
        if stray[:2] == (lane, step):
            return stray[2]
    word, *told = program[step]
    if word == "in":
        return inputs[[other[0] for other in program[:step]].count("in")] % machine[lane]
    if word == "is":
        return told[0] % machine[lane]
    j, k = [put_out(machine, program, inputs, strays, lane, place) for place in told]
    return {"sum": j + k, "less": j - k, "times": j * k}[word] % machine[lane]


class StraysErrorTest(LaneTest):
    machine = (7, 11, 4)

    def error(self, *value):
        return self.tell(strays_error, machine=self.machine, program=SQUARE, value=value)

    def test_strays(self):
        self.assert_same(self.error(), None)
        for lane, modulus in enumerate(self.machine):
            for step in range(4):
                for rest in (0, modulus - 1):
                    self.assert_same(self.error((lane, step, rest)), None)
        self.assert_same(self.error((0, 3, 6), (1, 0, 0)), None)
        self.assert_same(self.error((0, 0, 6), (0, 1, 5), (0, 2, 0), (2, 0, 0), (2, 3, 3)), None)
        self.assert_same(self.error(*((lane, step, 1) for lane in range(3) for step in range(4))), None)
        for machine, program, _, strays in runs_by(9, 50):
            self.assert_same(self.tell(strays_error, machine=machine, program=program, value=strays), None)

    def test_form(self):
        for value in (None, True, 0, "", "000", [], {}, [(0, 0, 0)], [[0, 0, 0]], {(0, 0): 0}, {0: (0, 0, 0)}):
            self.assert_same(self.tell(strays_error, machine=self.machine, program=SQUARE, value=value), "form")

    def test_no_stray(self):
        items = [None, True, 0, "", "000", (), [], {}, [0, 0, 0], {0: 0, 1: 0, 2: 0}, (0,), (0, 0), (0, 0, 0, 0),
                 ((0, 0), 0), ((0, 0, 0),), (0, (0, 0))]
        for wrong in (-1, 10 ** 399, True, False, None, "0", "", (), (0,), [], [0], {}):
            items += [(wrong, 0, 0), (0, wrong, 0), (0, 0, wrong)]
        items += [(3, 0, 0), (0, 4, 0), (0, 0, 7), (1, 0, 11), (2, 0, 4), (2, 0, 5), (2, 0, 6), (3, 4, 11), (2, 3, 4)]
        for item in items:
            self.assert_same(self.error(item), ("stray", 0))
            self.assert_same(self.error((0, 0, 0), item), ("stray", 1))
            self.assert_same(self.error((0, 0, 0), (0, 1, 0), item, (2, 3, 0)), ("stray", 2))

    def test_each_rest_is_below_the_modulus_of_its_own_lane(self):
        self.assert_same(self.error((1, 0, 10)), None)
        self.assert_same(self.error((0, 0, 10)), ("stray", 0))
        self.assert_same(self.error((0, 0, 6), (1, 0, 7), (2, 0, 4)), ("stray", 2))

    def test_lanes_and_steps_are_those_of_machine_and_program(self):
        value = ((3, 5, 1),)
        for machine, program, told in (((7,) * 4, SQUARE + (("is", 0),) * 2, None),
                                       ((7,) * 3, SQUARE * 1, ("stray", 0)),
                                       ((7,) * 4, SQUARE + (("is", 0),), ("stray", 0)),
                                       ((7,) * 3, SQUARE + (("is", 0),) * 2, ("stray", 0)),
                                       ((7, 7, 7, 2), SQUARE + (("is", 0),) * 2, None)):
            self.assert_same(self.tell(strays_error, machine=machine, program=program, value=value), told)
        self.assert_same(self.tell(strays_error, machine=(2,) * 10, program=(("is", 0),) * 30, value=((9, 29, 1),)),
                         None)

    def test_order(self):
        for one, other in (((0, 0, 0), (0, 0, 0)), ((0, 1, 2), (0, 1, 3)), ((0, 1, 3), (0, 1, 2)),
                           ((1, 0, 0), (0, 0, 0)), ((0, 1, 0), (0, 0, 0)), ((0, 1, 0), (0, 0, 5)),
                           ((1, 0, 0), (0, 3, 5)),
                           ((2, 0, 0), (1, 3, 0))):
            self.assert_same(self.error(one, other), ("order", 1))
            self.assert_same(self.error(one, other, (0, 0, 0)), ("order", 1))
            if one > other > (0, 1):
                self.assert_same(self.error((0, 0, 0), one, other), ("order", 2))
        self.assert_same(self.error((0, 0, 0), (0, 1, 0), (0, 1, 1), (0, 0, 0)), ("order", 2))
        self.assert_same(self.error((0, 0, 0), (1, 1, 0), (2, 1, 1), (2, 1, 1)), ("order", 3))

    def test_stray_comes_ahead_of_order(self):
        self.assert_same(self.error((1, 0, 0), (0, 0, 0), (0, 0, 7)), ("stray", 2))
        self.assert_same(self.error((0, 0, 0), (0, 0, 0), None, [0]), ("stray", 2))

    def test_any_value(self):
        for value in ODD_VALUES:
            told = self.tell(strays_error, machine=self.machine, program=SQUARE, value=value)
            if isinstance(value, tuple):
                self.assert_same(told, None if value == () else ("stray", 0))
            else:
                self.assert_same(told, "form")


class StrayersTest(LaneTest):
    def test_the_lanes_that_stand_in_strays(self):
        for strays, told in (((), ()), (((0, 0, 0),), (0,)), (((9, 29, 5),), (9,)),
                             (((0, 1, 2), (0, 3, 0), (2, 0, 1)), (0, 2)),
                             (tuple((lane, lane, lane) for lane in range(10)), tuple(range(10))),
                             (tuple((lane, step, 1) for lane in (1, 3, 8) for step in range(30)), (1, 3, 8))):
            self.assert_same(self.tell(strayers, strays=strays), told)

    def test_against_a_list(self):
        for _, _, _, strays in runs_by(10, 50):
            told = self.tell(strayers, strays=strays)
            self.assert_same(told, tuple(lane for lane in range(10) if lane in [stray[0] for stray in strays]))


if __name__ == "__main__":
    unittest.main()
