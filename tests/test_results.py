"""One program's own results: H1 to H3, and what H6 says of them."""

import unittest
from itertools import combinations
from random import Random

from straylanes.guards import bears
from straylanes.programs import inputs_error, result
from straylanes.results import mixed_runs, mixed_runs_hold, results, told_for_all
from straylanes.runs import strays_error
from tests import plain, plainruns
from tests.lanesamples import FIVES, GREAT_PRIMES, MOST, PRIMES, SMALL, TOP, book_by, lot_books
from tests.samples import few_inputs, of_inputs
from tests.support import LaneTest, ODD_VALUES, Outcome

SQUARE = (("in", 0, 2), ("times", 0, 0))
SIX = (("in", 0, 1), ("is", 6), ("times", 0, 1))
NAMED = {"machine": (2, 3, 5), "program": SQUARE, "book": 1}
PAPER = (((0,), ((1, 1, 1),)), ((2,), ((2, 1, 0),)))


class ResultsTest(LaneTest):
    def results(self, program):
        return self.tell(results, program=program)

    def test_told_ones(self):
        for program, told in (((("is", 5),), (5,)), ((("in", -2, 2),), (-2, -1, 0, 1, 2)), (SQUARE, (0, 1, 4)),
                              (SIX, (0, 6)), ((("in", -2, 2), ("times", 0, 0)), (0, 1, 4)),
                              ((("in", 0, 5), ("less", 0, 0)), (0,)), ((("in", 0, 5), ("is", -7)), (-7,)),
                              ((("in", 0, 2), ("in", 10, 10), ("in", 0, 1), ("sum", 0, 1), ("less", 3, 2)),
                               (9, 10, 11, 12)), ((("is", 3), ("in", TOP, TOP), ("times", 1, 1)), (TOP * TOP,))):
            self.assert_same(self.results(program), told)

    def test_against_running_with_all_inputs(self):
        chance = Random(211)
        for _ in range(150):
            program = few_inputs(chance, 2000, 9)
            told = sorted({result(program, inputs) for inputs in plainruns.all_inputs(program)})
            self.assert_same(self.results(program), tuple(told))

    def test_just_2000_and_2001(self):
        self.assert_same(self.results((("in", 1, 2000),)), tuple(range(1, 2001)))
        self.assert_same(self.results((("in", -TOP, 1999 - TOP),))[::1999], (-TOP, 1999 - TOP))
        for counts in ((2000,), (2,) * 10, (40, 50), (1, 2000), (1999,), (1,) * 15, (5, 5, 5, 4, 4)):
            self.assertEqual(self.results(of_inputs(*counts))[-1], sum(counts) - len(counts))
        for counts in ((2001,), (2,) * 11, (3, 667), (40, 51), (1, 2001), (2001, 1), (2,) * 15, (10 ** 30,),
                       (10 ** 60,) * 15, (2000, 10 ** 30), (10 ** 30, 1)):
            program = of_inputs(*counts)
            self.refuse("TooMany(2000)", results, program=program)
            for machine in ((7, 11, 13), PRIMES, (2,)):
                self.refuse("TooMany(2000)", told_for_all, machine=machine, program=program, book=1)
                self.refuse("TooMany(2000)", mixed_runs, machine=machine, program=program, book=((),))

    def test_too_many_though_few_results(self):
        for steps in ((("in", 0, 2000), ("is", 5)), (("in", 0, 2000), ("less", 0, 0)), (("in", -TOP, TOP), ("is", 0))):
            self.refuse("TooMany(2000)", results, program=steps)
            self.refuse("TooMany(2000)", told_for_all, machine=(7,), program=steps, book=0)
            self.refuse("TooMany(2000)", mixed_runs, machine=(7,), program=steps, book=1)


class ToldTest(LaneTest):
    def check(self, machine, program, book, told):
        """Check told_for_all and mixed_runs where told says whether no two runs are mixed up."""
        named = {"machine": machine, "program": program, "book": book}
        self.assert_same(self.tell(told_for_all, **named), told)
        paper = self.tell(mixed_runs, **named)
        self.assertIs(paper is None, told, (named, paper))
        if paper is not None:
            self.assertTrue(plainruns.is_paper(machine, program, book, paper), (named, paper))
            self.assert_same(self.tell(mixed_runs_hold, **named, value=paper), True)

    def test_told_ones(self):
        for machine, program, book, told in (
                ((7, 11, 13), SQUARE, 1, True), ((7, 11, 13), SQUARE, 2, False), ((2, 3, 5), SQUARE, 1, False),
                ((4, 5, 7), SIX, 1, True), ((2, 3), SIX, 0, False), ((2, 5), SIX, 0, True), ((2, 5), SIX, 1, False),
                ((7,), (("is", 5),), 1, True), ((7, 11), (("in", 0, 9), ("is", 1)), 2, True),
                ((4, 5, 7), SIX, ((0, 1), (2,)), False), ((4, 5, 7), SIX, ((0, 1),), True),
                ((4, 5, 7), SIX, ((0,), (1,), (2,)), True), ((6, 4), SIX, ((1,),), False), ((6, 4), SIX, ((0,),), True),
                ((7,), (("in", 0, 6),), 0, True), ((7,), (("in", 0, 7),), 0, False), ((7,), (("in", 0, 1),), 1, False)):
            self.check(machine, program, book, told)

    def test_against_going_through_all_words(self):
        chance, seen = Random(212), {True: 0, False: 0}
        for _ in range(2500):
            machine = tuple(chance.randint(2, 6) for _ in range(chance.randint(1, 4)))
            program = few_inputs(chance, 30, 6)
            book = book_by(chance, machine)
            told = plainruns.are_told(machine, program, book)
            self.check(machine, program, book, told)
            seen[told] += len(results(program)) > 1
        self.assertGreater(min(seen.values()), 200, seen)

    def test_all_books_of_two_lanes_and_of_three(self):
        for machine, program in (((2, 3), SQUARE), ((5, 4), SIX), ((4, 6), (("in", 0, 3), ("times", 0, 0)))):
            for book in lot_books(machine) + [0, 1, 2]:
                self.check(machine, program, book, plainruns.are_told(machine, program, book))
        for book in lot_books((2, 3, 5)):
            self.assert_same(told_for_all((2, 3, 5), SIX, book), plainruns.are_told((2, 3, 5), SIX, book))

    def test_one_lot_twice_and_two_lots(self):
        # 0 and 30 are alike in the lanes 0 to 2 alone.
        thirty, machine = (("in", 0, 1), ("is", 30), ("times", 0, 1)), (2, 3, 5, 7, 11)
        for book, told in ((0, True), (1, False), (((3, 4),), False), (((3,), (4,)), False), (((3,), (0, 1, 2)), True),
                           (((0, 1, 2, 3),), True), (((0, 4), (1, 3)), False), (((2, 4),), True)):
            self.check(machine, thirty, book, told)

    def test_ten_lanes(self):
        wide = (("in", 0, 1999), ("is", 10 ** 40 + 1), ("times", 0, 1))
        for machine, program, book in ((PRIMES, (("in", 0, 1999),), 1), (PRIMES, (("in", 0, 1999),), 2),
                                       (PRIMES, (("in", 0, 12),), 3), (GREAT_PRIMES, wide, 3), (GREAT_PRIMES, wide, 4),
                                       (GREAT_PRIMES, wide, FIVES), (PRIMES, wide, MOST), (PRIMES, wide, ((0, 1), (8, 9))),
                                       (GREAT_PRIMES, wide, 0), (PRIMES, SQUARE, 5), (PRIMES, SQUARE, 4)):
            values = results(program)
            lots = combinations(range(10), book) if isinstance(book, int) else book
            lots = [sum(1 << lane for lane in lot) for lot in lots]
            spans = {plain.span_outside(machine, [lane for lane in range(10) if lost >> lane & 1])
                     for lost in {one | other for one in lots for other in lots}}
            told = all(len({value % span for value in values}) == len(values) for span in sorted(spans))
            self.check(machine, program, book, told)

    def test_what_the_machine_bears_is_told(self):
        chance, borne = Random(213), 0
        for machine in SMALL * 60:
            program, book = few_inputs(chance, 40, 6), book_by(chance, machine)
            values = results(program)
            if bears(machine, values[-1] - values[0] + 1, (book, book, 0)):
                self.check(machine, program, book, True)
                borne += len(values) > 1
        self.assertGreater(borne, 100)


def is_well_made(value):
    """Tell whether value is made of two pairs of inputs and strays of NAMED."""
    return isinstance(value, tuple) and len(value) == 2 and all(
        isinstance(run, tuple) and len(run) == 2 and inputs_error(SQUARE, run[0]) is None
        and strays_error((2, 3, 5), SQUARE, run[1]) is None for run in value)


class HoldTest(LaneTest):
    def holds(self, value, **changed):
        return self.tell(mixed_runs_hold, **{**NAMED, **changed}, value=value)

    def test_told_ones(self):
        self.assert_same(self.holds(PAPER), True)
        self.assert_same(self.holds(PAPER[::-1]), True)
        self.assert_same(self.holds(PAPER, book=2), True)
        self.assert_same(self.holds(PAPER, book=((1,), (2,))), True)
        self.assert_same(self.holds(PAPER, book=((1, 2),)), True)
        for book in (0, ((1,),), ((2,),), ((),), ((0, 1), (0,))):
            self.assert_same(self.holds(PAPER, book=tuple(sorted(book)) if isinstance(book, tuple) else book), False)

    def test_any_value(self):
        for value in ODD_VALUES:
            (one, strays), other = PAPER
            for turned in (value, (value, other), (other, value), ((value, strays), other), ((one, value), other),
                           (((value,), strays), other), ((one, (value,)), other), ((one, ((1, 1, value),)), other),
                           ((one, ((value, 1, 1),)), other), ((one, ((1, value, 1),)), other),
                           ((one, strays, value), other), (*PAPER, value)):
                # An odd value may be just what can stand there.
                told = repr(value) in ("0", "1") and is_well_made(turned) and plainruns.is_paper(**NAMED, value=turned)
                self.assert_same(self.holds(turned), told)

    def test_one_thing_turned(self):
        (one, strays), (other, other_strays) = PAPER
        for turned in (((one, strays),), (PAPER[0], PAPER[0]), list(PAPER), (list(PAPER[0]), PAPER[1]),
                       (([0], strays), PAPER[1]), ((one, list(strays)), PAPER[1]), (((1,), strays), PAPER[1]),
                       (((2,), strays), PAPER[1]), (((3,), strays), PAPER[1]), (((-1,), strays), PAPER[1]),
                       (((), strays), PAPER[1]), (((0, 0), strays), PAPER[1]), (((False,), strays), PAPER[1]),
                       ((one, ()), PAPER[1]), ((one, ((1, 1, 0),)), PAPER[1]), ((one, ((1, 1, 2),)), PAPER[1]),
                       ((one, ((1, 1, 3),)), PAPER[1]), ((one, ((0, 1, 1),)), PAPER[1]), ((one, ((2, 1, 1),)), PAPER[1]),
                       ((one, ((1, 2, 1),)), PAPER[1]), ((one, ((3, 1, 1),)), PAPER[1]), ((one, ((1, -1, 1),)), PAPER[1]),
                       ((one, ((1, 1, True),)), PAPER[1]), ((one, ((True, 1, 1),)), PAPER[1]),
                       ((one, ((1, 1, 1), (2, 1, 0))), PAPER[1]), ((one, ((1, 1, 1), (1, 1, 1))), PAPER[1]),
                       ((one, ((1, 1, 1), (1, 0, 1))), PAPER[1]), ((one, [[1, 1, 1]]), PAPER[1]),
                       (PAPER[0], (other, ())), (PAPER[0], (other, ((2, 1, 1),))), (PAPER[0], ((1,), other_strays)),
                       (PAPER[0], (other, ((2, 0, 0), (1, 0, 0)))), (((), ()), ((), ())), {0: PAPER[0], 1: PAPER[1]}):
            self.assert_same(self.holds(turned), False)

    def test_other_papers(self):
        for turned, told in (((((0,), ((1, 0, 1),)), PAPER[1]), True), ((((0,), ((1, 0, 2),)), PAPER[1]), True),
                             ((((0,), ((1, 0, 0), (1, 1, 1))), PAPER[1]), True), ((PAPER[0], ((2,), ((2, 0, 0),))), True),
                             ((PAPER[0], ((2,), ((2, 0, 3), (2, 1, 0)))), True), ((((1,), ()), ((2,), ((0, 1, 1),))), False)):
            self.assert_same(self.holds(turned), told)
        # Strays of which what they put out is what the lane reckons count, too.
        self.assert_same(self.holds((((0,), ((0, 0, 0), (1, 1, 1))), PAPER[1])), False)
        self.assert_same(self.holds((((0,), ((0, 0, 0), (1, 1, 1))), PAPER[1]), book=2), True)

    def test_one_result_is_not_mixed_up(self):
        same = (("in", -2, 2), ("times", 0, 0))
        paper = (((2,), ()), ((-2,), ()))
        self.assert_same(self.holds(paper, program=same), False)
        self.assert_same(self.holds((((2,), ((0, 1, 1),)), ((-2,), ((0, 1, 1),))), program=same), False)
        self.assert_same(self.holds((((0,), ((1, 1, 1),)), ((-2,), ((2, 1, 0),))), program=same), True)

    def test_more_than_2000_inputs(self):
        great = (("in", -TOP, TOP), ("in", 0, 5000), ("sum", 0, 1))
        machine = (10 ** 6, 10 ** 6, 999983)
        one, other = (TOP, 0), (TOP - 10 ** 6, 0)
        rest = (TOP - 10 ** 6) % 999983
        for strays, book, told in ((((2, 2, rest),), 1, True), (((2, 2, rest),), 0, False), (((2, 0, rest),), 1, True),
                                   (((2, 2, rest - 1),), 1, False), ((), 3, False), (((2, 2, rest),), ((0, 1),), False)):
            self.assert_same(self.holds(((one, strays), (other, ())), machine=machine, program=great, book=book), told)
        self.assert_same(self.holds((((TOP + 1, 0), ()), (other, ())), machine=machine, program=great, book=3), False)

    def test_against_running_both_runs(self):
        chance, seen = Random(214), {True: 0, False: 0}
        for _ in range(3000):
            machine = tuple(chance.randint(2, 4) for _ in range(chance.randint(1, 3)))
            program = few_inputs(chance, 12, 4)
            inputs, book = plainruns.all_inputs(program), book_by(chance, machine)
            runs = []
            for _ in range(2):
                places = [(lane, at) for lane in range(len(machine)) for at in range(len(program))]
                chosen = sorted(chance.sample(places, min(len(places), chance.randint(0, 3))))
                runs.append((chance.choice(inputs), tuple((lane, at, chance.randrange(machine[lane])) for lane, at in chosen)))
            told = plainruns.is_paper(machine, program, book, tuple(runs))
            self.assert_same(self.holds(tuple(runs), machine=machine, program=program, book=book), told)
            seen[told] += 1
        self.assertGreater(min(seen.values()), 60, seen)

    def test_what_was_returned_with_parts_changed(self):
        paper = mixed_runs(**NAMED)
        for place in (0, 1):
            for changed in (((9,), paper[place][1]), (paper[place][0], ((0, 0, 0), (1, 0, 0), (2, 0, 0))), None):
                turned = tuple(changed if at == place else run for at, run in enumerate(paper))
                self.assert_same(self.holds(turned), False)


class QuickTest(unittest.TestCase):
    def test_what_is_refused_is_refused_at_once(self):
        program = of_inputs(*(10 ** 60,) * 15)
        for _ in range(200):
            self.assertEqual(Outcome(results, (program,), {}).written(), "raises TooMany(2000)")


if __name__ == "__main__":
    unittest.main()
