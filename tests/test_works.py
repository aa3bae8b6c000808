"""Works in stages: G1 to G4."""

import unittest
from random import Random

from straylanes.guards import reach
from straylanes.programs import result
from straylanes.runs import strayed_words, strays_error
from straylanes.works import work_error, work_results, work_told
from tests import plain
from tests.lanesamples import PRIMES, SMALL, TOP, book_by
from tests.samples import GREAT, SQUARE, inputs_by, program_by
from tests.support import LaneTest, ODD_VALUES

THREE = (7, 11, 13)
PLUS = (("in", 0, 3), ("in", 0, 3), ("sum", 0, 1))
MINUS = (("in", 0, 5), ("is", 1), ("less", 0, 1))
SAME = (("in", -9, 9),)
FIVE = (("is", 5),)
FED = (PLUS, (("value", 2), ("value", 3)), (0, 6))
WORK = (FED, (MINUS, (("stage", 0),), (-1, 5)))


def works_by(seed, many):
    """Yield so many works; each stage has as its stretch a few numbers around its result."""
    chance = Random(seed)
    for _ in range(many):
        stages, ahead = [], []
        for place in range(chance.randint(1, 8)):
            program = program_by(chance, 6)
            inputs, feeds = list(inputs_by(chance, program)), []
            lows = [step[1:] for step in program if step[0] == "in"]
            for at, (low, high) in enumerate(lows):
                fit = [k for k, told in enumerate(ahead) if low <= told <= high]
                if fit and chance.randint(0, 2):
                    feeds.append(("stage", chance.choice(fit)))
                    inputs[at] = ahead[feeds[-1][1]]
                else:
                    feeds.append(("value", inputs[at]))
            ahead.append(result(program, tuple(inputs)))
            low = ahead[-1] - chance.randint(0, 6)
            stages.append((program, tuple(feeds), (low, ahead[-1] + chance.randint(0, 6))))
        yield tuple(stages), tuple(ahead)


class WorkErrorTest(LaneTest):
    def error(self, *stages):
        return self.tell(work_error, value=stages)

    def test_works(self):
        self.assert_same(self.error(*WORK), None)
        self.assert_same(self.error((FIVE, (), (5, 5))), None)
        self.assert_same(self.error(*[(FIVE, (), (0, TOP))] * 8), None)
        self.assert_same(self.error((SAME, (("value", 9),), (9, 9)), (SAME, (("stage", 0),), (9, 9)),
                                    (PLUS[:1] + (("less", 0, 0),), (("value", 0),), (0, 0)),
                                    (PLUS, (("stage", 2), ("stage", 2)), (0, 0))), None)

    def test_form(self):
        for value in ((), [FED], FED[0:0], None, 0, True, "work", {0: FED}, (FED,) * 9, [], ((),) * 9):
            self.assert_same(self.tell(work_error, value=value), "form")
        self.assert_same(self.error(*[FED] * 8), None)

    def test_any_value(self):
        for value in ODD_VALUES:
            several = isinstance(value, tuple) and 1 <= len(value) <= 8
            self.assert_same(self.tell(work_error, value=value), ("stage", 0) if several else "form")
            self.assert_same(self.error(FED, value), ("stage", 1))
            self.assert_same(self.error((value, (), (0, 9))), ("stage", 0))
            self.assert_same(self.error((SAME, value, (-9, 9))), ("stage", 0))
            self.assert_same(self.error((SAME, (value,), (-9, 9))), ("stage", 0))
            self.assert_same(self.error((SAME, (("value", 1),), value)), ("stage", 0))
            self.assert_same(self.error(FED, (SAME, (("stage", value),), (-9, 9))),
                             None if repr(value) == "0" else ("stage", 1))
            self.assert_same(self.error((SAME, ((value, 0),), (-9, 9))), ("stage", 0))
            number = isinstance(value, int) and not isinstance(value, bool)
            self.assert_same(self.error((SAME, (("value", value),), (-9, 9))),
                             ("stage", 0) if not number else None if -9 <= value <= 9 else ("feed", 0))

    def test_stages_that_are_none(self):
        one = (("value", 1),)
        for stage in ((SAME, one), (SAME, one, (0, 9), 0), [SAME, one, (0, 9)], ((), one, (0, 9)), (list(SAME), one, (0, 9)),
                      ((("in", 9, 0),), one, (0, 9)), ((("sum", 0, 0),), (), (0, 9)), (SAME, (), (0, 9)),
                      (SAME, one * 2, (0, 9)), (SAME, list(one), (0, 9)), (FIVE, one, (0, 9)), (PLUS, one, (0, 9)),
                      (SAME, one, (9, 0)), (SAME, one, [0, 9]), (SAME, one, (0,)), (SAME, one, (0, 10 ** 60 + 1)),
                      (SAME, one, (False, 9)), (SAME, one, None)):
            self.assert_same(self.error(stage), ("stage", 0))
            self.assert_same(self.error(FED, stage, stage), ("stage", 1))

    def test_feeds_that_are_none(self):
        for feed in ((), ("value",), ("value", 1, 1), ["value", 1], ("value", True), ("value", None), ("value", "1"),
                     ("value", (1,)), ("Value", 1), ("", 1), (None, 1), (0, 1), ("stage", -1), ("stage", 2),
                     ("stage", 3), ("stage", True), ("stage", "0"), ("stage",), ("stage", 0, 0), ["stage", 0],
                     ("stage", None), "value", 1, None, (("value",), 1), ("stage", 10 ** 399)):
            self.assert_same(self.error(FED, FED, (SAME, (feed,), (-9, 9))), ("stage", 2))
            self.assert_same(self.error(FED, FED, (PLUS, (("value", 1), feed), (-9, 9))), ("stage", 2))
        for feed in (("stage", 0), ("stage", 1), ("value", 0), ("value", -9)):
            self.assert_same(self.error(FED, FED, (SAME, (feed,), (-9, 9))), None)
        self.assert_same(self.error((SAME, (("stage", 0),), (-9, 9))), ("stage", 0))

    def test_feed(self):
        for given, told in ((10, ("feed", 0)), (-10, ("feed", 0)), (9, None), (-9, None), (10 ** 399, ("feed", 0))):
            self.assert_same(self.error((SAME, (("value", given),), (-TOP, TOP))), told)
        self.assert_same(self.error((PLUS, (("value", 3), ("value", 4)), (0, 9))), ("feed", 0))
        # The result 5 of the stage 0 is handed to an input of PLUS, which goes to 3.
        self.assert_same(self.error(FED, (PLUS, (("value", 0), ("stage", 0)), (0, 9))), ("feed", 1))
        self.assert_same(self.error(FED, (FIVE, (), (0, 9)), (PLUS, (("stage", 1), ("value", 0)), (0, 9))), ("feed", 2))

    def test_out(self):
        for stretch, told in (((5, 5), None), ((-TOP, 5), None), ((5, TOP), None), ((6, 9), ("out", 0)),
                              ((0, 4), ("out", 0)), ((-5, -5), ("out", 0))):
            self.assert_same(self.error((FIVE, (), stretch)), told)
            self.assert_same(self.error(FED, (FIVE, (), stretch)), told and ("out", 1))
        # The values come to 10 ** 120; a result beyond all stretches is out, too.
        great = (GREAT[:2], (("value", TOP),), (-TOP, TOP))
        self.assert_same(self.error(great), ("out", 0))
        middle = (("in", 0, TOP // 10), ("times", 0, 0), ("less", 1, 1))
        self.assert_same(self.error((middle, (("value", TOP // 10),), (0, 0))), None)

    def test_the_first_that_applies(self):
        wrong_feed, wrong_out = (PLUS, (("value", 4), ("value", 0)), (0, 9)), (FIVE, (), (0, 4))
        both = (PLUS, (("value", 4), ("value", 0)), (9, 9))
        for stages, told in (((wrong_feed, wrong_out, FED[:2]), ("stage", 2)), ((wrong_out, FED, 7, 8), ("stage", 2)),
                             ((wrong_feed, wrong_out), ("feed", 0)), ((wrong_out, wrong_feed), ("out", 0)),
                             ((both,), ("feed", 0)), ((FED, both, wrong_out), ("feed", 1)),
                             ((FED, wrong_out, both), ("out", 1)), ((FED, FED, wrong_out), ("out", 2))):
            self.assert_same(self.error(*stages), told)

    def test_made_works(self):
        for work, _ in works_by(91, 200):
            self.assert_same(self.error(*work), None)


class WorkResultsTest(LaneTest):
    def test_told_ones(self):
        for work, told in ((WORK, (5, 4)), ((FED,), (5,)), ((FED, FED, WORK[1]), (5, 5, 4)),
                           ((FED, WORK[1], (SAME, (("stage", 0),), (5, 5)), (SAME, (("stage", 1),), (4, 4))), (5, 4, 5, 4)),
                           (((PLUS, (("value", 1), ("value", 3)), (4, 4)),
                             ((("in", 0, 9), ("in", 0, 9), ("less", 0, 1)), (("value", 9), ("stage", 0)), (5, 5))), (4, 5)),
                           (((SQUARE, (("value", -3),), (7, 7)),), (7,))):
            self.assert_same(self.tell(work_results, work=work), told)

    def test_made_works(self):
        for work, told in works_by(92, 200):
            self.assert_same(self.tell(work_results, work=work), told)


class WorkToldTest(LaneTest):
    def told(self, work, strays, book, machine=THREE):
        for (program, _, _), astray in zip(work, strays):
            self.assertIsNone(strays_error(machine, program, astray))
        return self.tell(work_told, machine=machine, work=work, strays=strays, book=book)

    def refused(self, written, work, strays, book, machine=THREE):
        self.refuse(written, work_told, machine=machine, work=work, strays=strays, book=book)

    def test_no_strays(self):
        machine = (10 ** 6, 999999, 999997)
        for work, told in works_by(93, 100):
            self.assert_same(self.told(work, ((),) * len(work), 0, machine), told)

    def test_borne_stages_are_told_right(self):
        """By G4: each stage has its own strayers, which the book lets."""
        chance, strayed = Random(94), 0
        machine = (17, 19, 23, 29, 31)
        for work, told in works_by(95, 200):
            book = chance.choice((1, ((0, 1), (2,)), ((0,), (1,), (3, 4)), 2))
            self.assertTrue(all(high - low < reach(machine, (book, book, 0)) for _, _, (low, high) in work))
            strays = []
            for program, _, _ in work:
                lanes = chance.choice(plain.lots_let(machine, book))
                strays.append(tuple((lane, step, chance.randint(0, machine[lane] - 1)) for lane in lanes
                                    for step in range(len(program)) if chance.randint(0, 1)))
                strayed += len(strays[-1]) > 0
            self.assert_same(self.told(work, tuple(strays), book, machine), told)
        self.assertGreater(strayed, 200)

    def test_what_is_told_is_handed_on(self):
        # 0 is told in the place of 5, as two lanes stray, and one may.
        third = (SAME, (("stage", 1),), (-9, -1))
        astray = ((0, 2, 0), (1, 2, 0))
        self.assert_same(self.told(WORK + (third,), (astray, (), ()), 1), (0, -1, -1))
        # -1 is no number of the last stretch, and no number of it has two of its rests.
        self.refused("Strayed()", WORK + ((SAME, (("stage", 1),), (0, 9)),), (astray, (), ()), 1)

    def test_unfit_ahead_of_running(self):
        # 6 is told in the place of 5, and MINUS takes 5 at most.
        astray = ((0, 2, 6), (1, 2, 6))
        self.refused("Unfit()", WORK, (astray, ()), 1)
        # It stays unfit if the stage would stray, too; and if the stage is a later one.
        self.refused("Unfit()", WORK, (astray, ((0, 0, 1), (1, 0, 3), (2, 0, 7))), 1)
        self.refused("Unfit()", (FED, (FIVE, (), (0, 9)), (MINUS, (("stage", 0),), (-1, 5))), (astray, (), ()), 1)
        self.assert_same(self.told((FED, (FIVE, (), (0, 9))), (astray, ()), 1), (6, 5))
        # Another stage ahead of it that raises comes first.
        self.refused("Strayed()", (FED, (FIVE, (), (5, 5)), (MINUS, (("stage", 0),), (-1, 5))),
                     (astray, ((0, 0, 0), (1, 0, 0)), ()), 1)

    def test_strayed_and_unsure(self):
        self.refused("Strayed()", WORK, (((0, 2, 0),), ()), 0)
        self.refused("Strayed()", WORK, ((), ((0, 2, 0), (1, 2, 2))), 1)
        self.refused("Unsure((0, 5))", WORK, (((1, 2, 0),), ()), 2)
        self.refused("Unsure((0, 4))", WORK, ((), ((1, 2, 0),)), 2)
        self.refused("Unsure((0, 1))", WORK, ((), ()), 3)
        # Unsure of the first stage comes ahead of anything that the second one would raise.
        self.refused("Unsure((0, 5))", WORK, (((1, 2, 0),), ((0, 2, 6), (1, 2, 6), (2, 2, 6))), 2)

    def test_against_running_stage_by_stage(self):
        chance, outcomes = Random(96), {}
        for work, _ in works_by(97, 400):
            machine = chance.choice(SMALL[5:] + (PRIMES,))
            book = book_by(chance, machine)
            strays = tuple(tuple((lane, len(program) - 1, chance.randint(0, machine[lane] - 1))
                                 for lane in range(len(machine)) if chance.randint(0, 9) == 0) for program, _, _ in work)
            told = staged(machine, work, strays, book)
            if isinstance(told, str):
                self.refused(told, work, strays, book, machine)
            else:
                self.assert_same(self.told(work, strays, book, machine), told)
            kind = told.split("(")[0] if isinstance(told, str) else "told"
            outcomes[kind] = outcomes.get(kind, 0) + 1
        self.assertGreater(min(outcomes[kind] for kind in ("Strayed", "Unsure", "told")), 30, outcomes)


def staged(machine, work, strays, book):
    """Return what is told of all stages, or the error that is to be raised, as it is written."""
    ahead = []
    for (program, feeds, stretch), astray in zip(work, strays):
        inputs = []
        for (word, told), (low, high) in zip(feeds, [step[1:] for step in program if step[0] == "in"]):
            inputs.append(told if word == "value" else ahead[told])
            if not low <= inputs[-1] <= high:
                return "Unfit()"
        found = plain.candidates(machine, strayed_words(machine, program, tuple(inputs), astray)[-1], stretch, book)
        if len(found) != 1:
            return f"Unsure({tuple(found[:2])})" if found else "Strayed()"
        ahead.append(found[0])
    return tuple(ahead)


if __name__ == "__main__":
    unittest.main()
