"""Strays at told steps alone: H4, H5, and what H6 says of them."""

import unittest
from random import Random

from straylanes.results import mixed_runs_hold, told_for_all
from straylanes.runs import lane_words
from straylanes.units import faces, told_from, unit_runs
from tests import plainruns
from tests.lanesamples import FIVES, GREAT_PRIMES, MOST, PRIMES, TOP, book_by
from tests.samples import few_inputs, of_inputs, program_by
from tests.support import LaneTest

EVEN = (("in", 0, 1), ("is", 0), ("is", 2), ("times", 1, 2), ("sum", 0, 3))
SQUARE = (("in", 0, 2), ("times", 0, 0))


def units_by(chance, program, most):
    return tuple(sorted(chance.sample(range(len(program)), chance.randint(0, min(most, len(program))))))


def powers(first, second):
    """Return a program of one input: for 1 it comes to 0, for 0 to the sum of two fourth powers.

    These are of what the steps 1 and 2, which are 0, are off first and second.
    """
    return (("in", 0, 1), ("is", 0), ("is", 0), ("is", first), ("less", 1, 3), ("times", 4, 4), ("times", 5, 5),
            ("is", second), ("less", 2, 7), ("times", 8, 8), ("times", 9, 9), ("sum", 6, 10), ("times", 0, 11),
            ("less", 11, 12))


class FacesTest(LaneTest):
    def faces(self, machine, program, inputs, lane, units):
        return self.tell(faces, machine=machine, program=program, inputs=inputs, lane=lane, units=units)

    def test_told_ones(self):
        for machine, program, inputs, lane, units, told in (
                ((4, 6), EVEN, (0,), 0, (1,), (0, 2)), ((4, 6), EVEN, (1,), 0, (1,), (1, 3)),
                ((4, 6), EVEN, (0,), 1, (1,), (0, 2, 4)), ((4, 6), EVEN, (1,), 1, (), (1,)),
                ((4, 6), EVEN, (1,), 0, (2,), (1,)), ((4, 6), EVEN, (0,), 0, (1, 2), (0, 1, 2, 3)),
                ((4, 6), EVEN, (0,), 1, (3,), (0, 1, 2, 3, 4, 5)), ((4, 6), EVEN, (0,), 1, (4,), (0, 1, 2, 3, 4, 5)),
                ((4, 6), EVEN, (0,), 0, (0, 1), (0, 1, 2, 3)), ((2, 3, 5), SQUARE, (0,), 2, (0,), (0, 1, 4)),
                ((2, 3, 5), SQUARE, (0,), 1, (0,), (0, 1)), ((2, 3, 5), SQUARE, (0,), 1, (0, 1), (0, 1, 2)),
                ((2,), (("is", 5),), (), 0, (), (1,)), ((2,), (("is", 5),), (), 0, (0,), (0, 1)),
                ((5,), (("in", -9, 9),), (-3,), 0, (), (2,)), ((10 ** 6,), (("in", -TOP, TOP),), (-1,), 0, (), (999999,))):
            self.assert_same(self.faces(machine, program, inputs, lane, units), told)

    def test_against_all_rests_at_each_unit(self):
        chance, many = Random(221), set()
        for _ in range(900):
            machine = tuple(chance.randint(2, 9) for _ in range(chance.randint(1, 3)))
            program = program_by(chance, 9)
            inputs = tuple(chance.randint(step[1], step[2]) for step in program if step[0] == "in")
            lane, units = chance.randrange(len(machine)), units_by(chance, program, 3)
            told = tuple(sorted(plainruns.faces(machine, program, inputs, lane, units)))
            self.assert_same(self.faces(machine, program, inputs, lane, units), told)
            many.add(len(told))
        self.assertGreater(len(many), 6)

    def test_all_units_of_small_programs(self):
        for program in (EVEN, (("in", 0, 3), ("is", 2), ("times", 0, 1), ("sum", 2, 2), ("less", 3, 0), ("times", 4, 4))):
            for units in plainruns.all_rows(len(program)):
                for inputs in plainruns.all_inputs(program):
                    for lane, modulus in enumerate((3, 4)):
                        if modulus ** len(units) <= 300:
                            told = tuple(sorted(plainruns.faces((3, 4), program, inputs, lane, units)))
                            self.assert_same(faces((3, 4), program, inputs, lane, units), told)

    def test_just_3000_and_more(self):
        line = tuple(("in", 0, 1) for _ in range(12)) + (("sum", 0, 1),)
        zeros = (0,) * 12
        for modulus, many in ((3000, 1), (54, 2), (14, 3), (7, 4), (4, 5), (3, 7), (2, 11), (10 ** 6, 0)):
            self.assertLessEqual(modulus ** many, 3000)
            self.assertIn(0, self.faces((5, modulus), line, zeros, 1, tuple(range(many))))
            # Of another lane nothing is asked, and units that make no difference count, too.
            self.assertIn(0, self.faces((modulus, 10 ** 6), line, zeros, 0, tuple(range(many))))
            self.assertIn(0, self.faces((modulus, 10 ** 6), line, zeros, 0, tuple(range(12 - many, 12))))
        for modulus, many in ((3001, 1), (55, 2), (15, 3), (8, 4), (5, 5), (4, 6), (3, 8), (2, 12), (10 ** 6, 1),
                              (10 ** 6, 12)):
            for units in (tuple(range(many)), tuple(range(12 - many, 12))):
                self.refuse("TooMany(3000)", faces, machine=(5, modulus), program=line, inputs=zeros, lane=1, units=units)

    def test_all_faces_of_3000(self):
        program = (("in", 0, 9), ("is", 7), ("sum", 0, 1), ("sum", 2, 2))
        self.assert_same(self.faces((3000,), program, (3,), 0, (0,)), tuple(range(0, 3000, 2)))
        self.assert_same(self.faces((2999,), program, (3,), 0, (0,)), tuple(range(2999)))
        self.assert_same(self.faces((54,), program, (3,), 0, (0, 1)), tuple(range(0, 54, 2)))

    def test_one_row_of_rests_alone(self):
        # By 5 the fourth power is 1 of all but 0: the sum is 0 for just one rest at each of both units.
        for first in range(5):
            for second in range(5):
                program = powers(first, second)
                told = tuple(sorted(plainruns.faces((5,), program, (0,), 0, (1, 2))))
                self.assert_same(self.faces((5,), program, (0,), 0, (1, 2)), told)
                self.assertEqual(told, (0, 1, 2))
                self.assert_same(self.faces((5,), program, (1,), 0, (1, 2)), (0,))

    def test_more_units_have_more_faces(self):
        chance = Random(222)
        for _ in range(200):
            machine, program = (chance.randint(2, 7),), program_by(chance, 7)
            inputs = tuple(step[1] for step in program if step[0] == "in")
            units = units_by(chance, program, 3)
            told, right = set(faces(machine, program, inputs, 0, units)), lane_words(machine, program, inputs)[-1][0]
            self.assertIn(right, told)
            for left in units:
                fewer = tuple(unit for unit in units if unit != left)
                self.assertLessEqual(set(faces(machine, program, inputs, 0, fewer)), told)
            if len(program) - 1 in units:
                self.assertEqual(told, set(range(machine[0])))


class ToldFromTest(LaneTest):
    def check(self, machine, program, book, units, told):
        """Check told_from and unit_runs where told says whether no two runs are mixed up."""
        named = {"machine": machine, "program": program, "book": book, "units": units}
        self.assert_same(self.tell(told_from, **named), told)
        paper = self.tell(unit_runs, **named)
        self.assertIs(paper is None, told, (named, paper))
        if paper is not None:
            self.assertTrue(plainruns.is_paper(machine, program, book, paper), (named, paper))
            self.assertTrue(mixed_runs_hold(machine, program, book, paper))
            self.assertLessEqual({step for _, strays in paper for _, step, _ in strays}, set(units))

    def test_told_ones(self):
        for machine, program, book, units, told in (
                ((4, 6), EVEN, 2, (1,), True), ((4, 6), EVEN, 1, (3,), False), ((4, 6), EVEN, 2, (), True),
                ((4, 6), EVEN, 2, (1, 2), False), ((4, 6), EVEN, 1, (1, 2), False), ((4, 6), EVEN, 0, (0, 1, 2, 3), True),
                ((4, 6), EVEN, ((0,),), (3,), True), ((4, 6), EVEN, ((0,), (1,)), (3,), False),
                ((4, 6), EVEN, ((0,), (1,)), (0,), False), ((4, 5), EVEN, 1, (1,), True), ((5, 5), EVEN, 1, (1,), False),
                ((2, 2), SQUARE, 0, (), False), ((2, 2), SQUARE, 0, (0, 1), False), ((5,), (("is", 3),), 1, (0,), True)):
            self.check(machine, program, book, units, told)

    def test_against_going_through_all_runs(self):
        chance, seen, made = Random(223), {True: 0, False: 0}, 0
        while made < 900:
            machine = tuple(chance.randint(2, 5) for _ in range(chance.randint(1, 3)))
            program = few_inputs(chance, 8, 5)
            units, book = units_by(chance, program, 2), book_by(chance, machine)
            count = len(plainruns.all_inputs(program))
            for modulus in machine:
                count *= (modulus + 1) ** len(units)
            if count > 3000:
                continue
            told = plainruns.are_told_from(machine, program, book, units)
            self.check(machine, program, book, units, told)
            seen[told] += len(units) > 0
            made += 1
        self.assertGreater(min(seen.values()), 100, seen)

    def test_lanes_that_have_to_stray_in_both_runs(self):
        # What the step 1 puts out is taken six times: 0 or 6 by 12, and the inputs make 0 and 3.
        program = (("in", 0, 1), ("is", 0), ("is", 6), ("is", 3), ("times", 1, 2), ("times", 0, 3), ("sum", 4, 5))
        self.check((12,), program, 1, (1,), True)
        # 0 or 3 ahead, and 0 or 2 more: neither is right for the other one, and both can put out the same.
        other = (("in", 0, 1), ("is", 2), ("is", 2), ("less", 1, 2), ("is", 5), ("times", 0, 4), ("sum", 3, 5))
        for units, told in (((), True), ((1,), False), ((3,), False), ((0,), False)):
            self.check((7,), other, 1, units, told)
        # Squares of what the step 1 puts out are added: from 0 come 0, 1, 4, from 2 come 2, 3, 1 by 5.
        squares = (("in", 0, 1), ("is", 0), ("times", 1, 1), ("is", 2), ("times", 0, 3), ("sum", 2, 4))
        self.check((5,), squares, 1, (1,), False)
        self.check((5, 5), squares, 1, (1,), True)
        self.check((5, 5), squares, 2, (1,), False)
        self.check((5, 5), squares, ((0,), (1,)), (1,), True)
        self.check((5, 5), squares, ((0, 1), (1,)), (1,), False)
        self.check((5, 3), squares, ((0,), (1,)), (1,), True)
        paper = unit_runs((5,), squares, 1, (1,))
        self.assertTrue(all(len(strays) == 1 for _, strays in paper), paper)

    def test_one_row_of_rests_alone(self):
        for first in range(1, 5):
            for second in range(1, 5):
                self.check((5,), powers(first, second), 1, (1, 2), False)
                (one, strays), (other, other_strays) = sorted(unit_runs((5,), powers(first, second), 1, (1, 2)))
                self.assert_same((one, strays, other), ((0,), ((0, 1, first), (0, 2, second)), (1,)))
                self.check((5,), powers(first, second), 1, (1,), True)
                self.check((5,), powers(first, second), 1, (2,), True)

    def test_with_the_last_step_it_is_told_for_all(self):
        chance, seen = Random(224), {True: 0, False: 0}
        for _ in range(500):
            machine = tuple(chance.randint(2, 9) for _ in range(chance.randint(1, 5)))
            program, book = few_inputs(chance, 60, 6), book_by(chance, machine)
            told = told_for_all(machine, program, book)
            self.check(machine, program, book, (len(program) - 1,), told)
            seen[told] += 1
            units = units_by(chance, program, 3)
            if told:
                self.check(machine, program, book, units, True)
            elif told_from(machine, program, book, units):
                for left in units:
                    self.check(machine, program, book, tuple(unit for unit in units if unit != left), True)
        self.assertGreater(min(seen.values()), 100, seen)

    def test_ten_lanes(self):
        for machine, program, book, units, told in (
                (PRIMES, (("in", 0, 99),), 1, (0,), True), (PRIMES, (("in", 0, 99),), 5, (0,), False),
                (PRIMES, (("in", 0, 99),), FIVES, (0,), False), (GREAT_PRIMES, (("in", 0, 99),), MOST, (), True),
                (PRIMES, EVEN, MOST, (1, 3), False), ((4, 6, 8, 10, 12, 14, 16, 18, 20, 22), EVEN, FIVES, (1,), True),
                ((4, 6, 8, 10, 12, 14, 16, 18, 20, 22), EVEN, 10, (1,), True),
                ((4, 6, 8, 10, 12, 14, 16, 18, 20, 22), EVEN, FIVES, (2,), True),
                ((4, 6, 8, 10, 12, 14, 16, 18, 20, 22), EVEN, 10, (1, 2), False),
                ((4, 6, 8, 10, 12, 14, 16, 18, 20, 23), EVEN, 10, (1,), True)):
            self.check(machine, program, book, units, told)


class RefusedTest(LaneTest):
    def refused(self, written, machine, program, book, units):
        for function in (told_from, unit_runs):
            self.refuse(written, function, machine=machine, program=program, book=book, units=units)

    def test_just_100_and_101_inputs(self):
        for counts in ((100,), (10, 10), (5, 5, 4), (1, 100)):
            program = of_inputs(*counts)
            self.assert_same(self.tell(told_from, machine=PRIMES, program=program, book=1, units=(0,)), True)
            self.assertIsNone(self.tell(unit_runs, machine=PRIMES, program=program, book=1, units=(0,)))
        for counts in ((101,), (10, 11), (2,) * 7, (10 ** 30,), (10 ** 60,) * 15, (1, 101)):
            for machine, book, units in ((PRIMES, 1, (0,)), ((7,), 0, ()), (GREAT_PRIMES, 1, (0,))):
                # It comes ahead of TooMany(3000), and of a result that is the same for all.
                self.refused("TooMany(100)", machine, of_inputs(*counts), book, units)
        self.refused("TooMany(100)", (7,), (("in", 0, 100), ("is", 5)), 1, (0,))

    def test_more_than_3000_faces(self):
        for machine, book, units in (((3001,), 1, (0,)), ((55, 2), 1, (0, 1)), ((2, 55), ((1,),), (0, 1)),
                                     ((2, 3, 55), ((0, 1), (0, 2)), (0, 1)), (GREAT_PRIMES, 1, (4,)),
                                     (GREAT_PRIMES, FIVES, (0, 1, 2, 3, 4)), ((8, 7), 2, (0, 1, 2, 3)),
                                     ((3001, 2), ((0, 1), (1,)), (0,))):
            self.refused("TooMany(3000)", machine, EVEN, book, units)

    def test_only_lanes_of_some_lot_count(self):
        for machine, book, units, told in (((3001,), 0, (0,), True), ((55, 2), ((1,),), (0, 1), True), ((3000,), 1, (1,), True),
                                           ((2, 55), ((0,),), (0, 1), True), ((54, 2), ((0,),), (1, 2), True),
                                           (GREAT_PRIMES, 0, (0, 1, 2, 3, 4), True), (GREAT_PRIMES, ((),), (0,), True),
                                           (GREAT_PRIMES, FIVES, (), True), ((10 ** 6, 5), ((1,),), (0,), True)):
            self.assert_same(self.tell(told_from, machine=machine, program=EVEN, book=book, units=units), told)
            paper = self.tell(unit_runs, machine=machine, program=EVEN, book=book, units=units)
            self.assertIs(paper is None, told)

    def test_one_run_alone(self):
        self.refused("TooMany(3000)", (3001,), (("is", 5),), 1, (0,))
        self.assert_same(self.tell(told_from, machine=(3000,), program=(("is", 5),), book=1, units=(0,)), True)


if __name__ == "__main__":
    unittest.main()
