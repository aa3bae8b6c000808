"""Benches: K1 to K5, and what K8 says of them."""

import unittest
from random import Random

from straylanes.benches import Bench
from straylanes.errors import LaneError, NoPlan, Strayed, Taken, TooMany, Unfit
from straylanes.guards import reach
from straylanes.results import told_for_all
from tests.benchsamples import EDITS, METHODS, RAIL, THREE, arguments_by, bench_with, rail_and_three, state_of
from tests.lanesamples import FIVES, MOST, PRIMES
from tests.plainbench import PlainBench, Refused
from tests.samples import of_inputs
from tests.support import LaneTest, ODD_VALUES, Outcome

class BenchTest(LaneTest):
    def call(self, bench, word, *told, by_name=False):
        """Return what a call of a method comes to, as it is written; what is refused must change nothing."""
        places, names = (), {}
        if by_name:
            names = dict(zip(METHODS[word], told))
        else:
            places = told
        ahead, written = (state_of(bench), bench.made), repr(told)
        outcome = Outcome(getattr(bench, word), places, names)
        self.assertEqual(repr(told), written, "what was handed in was changed")
        if outcome.error is not None:
            self.assertIsInstance(outcome.error, LaneError)
            self.assertEqual((state_of(bench), bench.made), ahead, (word, told))
        return outcome.written()

    def refuse_edit(self, written, bench, word, *told):
        """Check that an edit is refused, by place and by name, alone, within a batch, and within an attempt."""
        for by_name in (False, True):
            self.assertEqual(self.call(bench, word, *told, by_name=by_name), "raises " + written, told)
        if word == "batch":
            return
        self.assertEqual(self.call(bench, "batch", ((word, *told),)), "raises Rejected(0)")
        ahead = state_of(bench)
        with self.assertRaises(LaneError):
            bench.attempt(lambda given: getattr(given, word)(*told))
        self.assertEqual(state_of(bench), ahead)


class ShelfTest(BenchTest):
    def test_a_new_bench(self):
        bench = Bench()
        self.assert_same((bench.shelf, bench.version, bench.log, bench.made, len(bench), list(bench)), ((), 0, (), 0, 0, []))
        self.assertFalse("rail" in bench)
        self.assert_same(bench.at(0), ())

    def test_names_and_things_in_order(self):
        bench = bench_with(("keep", "b", RAIL), ("keep", "c", (2,)), ("keep", "a", THREE), ("keep", "aa", (3, 3)))
        self.assert_same(bench.shelf, (("a", THREE), ("aa", (3, 3)), ("b", RAIL), ("c", (2,))))
        self.assert_same((list(bench), [name for name in bench], sorted(bench), tuple(bench)),
                         (["a", "aa", "b", "c"], ["a", "aa", "b", "c"], ["a", "aa", "b", "c"], ("a", "aa", "b", "c")))
        self.assert_same([bench[name] for name in bench], [THREE, (3, 3), RAIL, (2,)])
        self.assert_same((len(bench), bench.version), (4, 4))
        self.assert_same(bench.log, (("keep", "b", RAIL), ("keep", "c", (2,)), ("keep", "a", THREE), ("keep", "aa", (3, 3))))

    def test_properties_can_only_be_read(self):
        for bench in (Bench(), rail_and_three()):
            for name in ("shelf", "version", "log", "made"):
                ahead = repr(getattr(bench, name))
                with self.assertRaises(AttributeError):
                    setattr(bench, name, ())
                self.assertEqual(repr(getattr(bench, name)), ahead)

    def test_in_and_items_of_any_value(self):
        bench = rail_and_three()
        for name, inside in (("rail", True), ("three", True), ("rai", False), ("", False), ("none", False), ("Rail", False)):
            self.assertIs(name in bench, inside)
            self.assertIs(name not in bench, not inside)
        for value in (*ODD_VALUES, bench, ("rail",), ["rail"], {"rail": RAIL}, RAIL, THREE, ("rail", RAIL), Unfit()):
            self.assertIs(value in bench, False)
            try:
                bench[value]
                self.fail("it has no such name")
            except LaneError as error:
                self.assertEqual(error.__class__.__name__, "NoName")
                self.assertIs(error.given, value)

    def test_equality(self):
        one, other = rail_and_three(), bench_with(("keep", "three", THREE), ("keep", "rail", RAIL))
        self.assertTrue(one == other and not one != other and one == one)
        self.assertTrue(one == one.copy() and Bench() == Bench() and not Bench() != Bench())
        other.drop("rail")
        self.assertTrue(one != other and not one == other)
        other.keep("rail", RAIL)
        # Versions and logs may be unlike.
        self.assertTrue(one == other and one.version != other.version)
        other.lane_put("rail", 5)
        self.assertTrue(one != other)
        for value in (*ODD_VALUES, one.shelf, "rail", list(one), Unfit()):
            self.assertIs(one == value, False)
            self.assertIs(one != value, True)
            self.assertIs(value == one, False)
            self.assertIs(Bench() == value, False)
            self.assertIs(Bench() != value, True)

    def test_what_is_returned_does_not_change_later(self):
        bench = rail_and_three()
        told = (bench.shelf, bench.log, bench.at(1), bench["rail"], list(bench))
        written = repr(told)
        bench.lane_put("rail", 5)
        bench.batch((("drop", "three"), ("keep", "b", (2,))))
        bench.undo()
        bench.undo()
        bench.undo()
        self.assertEqual(repr(told), written)

    def test_two_benches_do_not_meet(self):
        one, other = Bench(), Bench()
        one.keep("rail", RAIL)
        one.reach_of("rail", (1, 1, 0))
        self.assert_same((other.shelf, other.version, other.made, one.made), ((), 0, 0, 1))


class KeepTest(BenchTest):
    def test_names(self):
        for name in ("a", "z", "rail", "abcdefgh", "nones", "non", "zzzzzzzz"):
            for by_name in (False, True):
                self.assertEqual(self.call(Bench(), "keep", name, RAIL, by_name=by_name), "1")
        for name in (*ODD_VALUES, "none", "abcdefghi", "", "A", "aB", "a1", "a b", " a", "a ", "a_b", "a-b", "a\n", "\na", "{",
                     "`", "a.b", ("rail",), ["rail"], b"rail", 7):
            if name not in ("in",):
                self.refuse_edit("Unfit()", Bench(), "keep", name, RAIL)

    def test_things(self):
        bench = Bench()
        for thing, written in (((), "BadMachine('form')"), ([7], "BadMachine('form')"), ((7, 1), "BadMachine(('modulus', 1))"),
                               ((7,) * 11, "BadMachine('form')"), ((True,), "BadMachine(('modulus', 0))"),
                               (None, "BadMachine('form')"), ("7 11", "BadMachine('form')"), ({}, "BadMachine('form')"),
                               ((7, (7,)), "BadMachine(('modulus', 1))"), ((None, THREE), "BadMachine(('modulus', 0))"),
                               (((),), "BadProgram(('step', 0))"), (((7,),), "BadProgram(('step', 0))"),
                               ((("is", 5), 7), "BadProgram(('step', 1))"), ((("in", 9, 0),), "BadProgram(('step', 0))"),
                               ((("is", 5),) * 31, "BadProgram('form')"), ([("is", 5)], "BadMachine('form')"),
                               ((["is", 5],), "BadMachine(('modulus', 0))"), ((("is", 5), ("sum", 0, 1)), "BadProgram(('step', 1))"),
                               ((("is", 10 ** 60), ("times", 0, 0), ("times", 1, 0)), "BadProgram(('great', 2))"),
                               (((),) * 31, "BadProgram('form')"), ((7,) * 4000, "BadMachine('form')")):
            self.refuse_edit(written, bench, "keep", "rail", thing)
        for value in ODD_VALUES:
            if not (isinstance(value, tuple) and value and value[0] == 7):
                self.assertIn("Bad", self.call(bench, "keep", "rail", value))
        self.assert_same(bench.shelf, ())

    def test_taken_and_too_many(self):
        bench = rail_and_three()
        self.refuse_edit("Taken('rail')", bench, "keep", "rail", RAIL)
        self.refuse_edit("Taken('three')", bench, "keep", "three", RAIL)
        for name in ("a", "b", "c", "d", "e", "f"):
            self.assertIsInstance(bench.keep(name, (2,)), int)
        self.assertEqual(len(bench), 8)
        self.refuse_edit("TooMany(8)", bench, "keep", "g", RAIL)
        self.refuse_edit("Taken('a')", bench, "keep", "a", RAIL)
        bench.drop("a")
        self.assertEqual(self.call(bench, "keep", "g", RAIL), "10")

    def test_the_first_that_applies(self):
        bench = bench_with(*[("keep", name, RAIL) for name in "abcdefgh"])
        self.refuse_edit("Unfit()", bench, "keep", "none", ())
        self.refuse_edit("Unfit()", bench, "keep", "none", RAIL)
        self.refuse_edit("BadMachine('form')", bench, "keep", "a", ())
        self.refuse_edit("BadProgram(('step', 0))", bench, "keep", "a", ((),))
        self.refuse_edit("BadMachine('form')", bench, "keep", "g" * 2, ())
        self.refuse_edit("Taken('a')", bench, "keep", "a", THREE)


class ChangeTest(BenchTest):
    def test_no_name_ahead_of_all(self):
        bench = rail_and_three()
        for name in (*ODD_VALUES, "none", "rai", "Rail", ["rail"], ("rail",), "rail ", bench.shelf):
            for word, *told in (("drop",), ("lane_put", None), ("lane_put", 5), ("lane_taken", None), ("lane_taken", 0),
                                ("step_put", None), ("step_put", ("is", 5)), ("step_taken",), ("reach_of", None),
                                ("reach_of", (0, 0, 0)), ("told", "three", None), ("told", None, 0)):
                for by_name in (False, True):
                    self.assertEqual(self.call(bench, word, name, *told, by_name=by_name), f"raises NoName({name!r})")

    def test_drop(self):
        bench = rail_and_three()
        self.assertEqual(self.call(bench, "drop", "rail", by_name=True), "3")
        self.assert_same(bench.shelf, (("three", THREE),))
        self.refuse_edit("NoName('rail')", bench, "drop", "rail")
        self.assertEqual(self.call(bench, "drop", "three"), "4")
        self.assert_same((bench.shelf, len(bench), list(bench)), ((), 0, []))
        self.assert_same(bench.log[2:], (("drop", "rail"), ("drop", "three")))

    def test_things_that_are_alike(self):
        bench = bench_with(("keep", "a", RAIL), ("keep", "b", RAIL), ("drop", "a"), ("keep", "c", RAIL), ("lane_put", "b", 2))
        self.assert_same(bench.shelf, (("b", RAIL + (2,)), ("c", RAIL)))

    def test_lane_put(self):
        bench = rail_and_three()
        self.assertEqual(self.call(bench, "lane_put", "rail", 5), "3")
        self.assertEqual(self.call(bench, "lane_put", "rail", 7, by_name=True), "4")
        self.assert_same(bench["rail"], (7, 11, 13, 5, 7))
        self.assert_same(bench.log[2:], (("lane_put", "rail", 5), ("lane_put", "rail", 7)))
        for modulus in (1, 0, -7, 10 ** 6 + 1, True, None, "7", (7,), [7], 10 ** 399):
            self.refuse_edit("BadMachine(('modulus', 5))", bench, "lane_put", "rail", modulus)
            self.refuse_edit("Unfit()", bench, "lane_put", "three", modulus)
        self.refuse_edit("Unfit()", bench, "lane_put", "three", 5)
        for modulus in (2, 10 ** 6, 3, 4, 9):
            bench.lane_put("rail", modulus)
        self.assertEqual(len(bench["rail"]), 10)
        self.refuse_edit("BadMachine('form')", bench, "lane_put", "rail", 5)
        self.refuse_edit("BadMachine('form')", bench, "lane_put", "rail", None)

    def test_lane_taken(self):
        bench = rail_and_three()
        for lane in (3, -1, 10, True, False, None, "0", (0,), [], 10 ** 399):
            self.refuse_edit("Unfit()", bench, "lane_taken", "rail", lane)
        self.refuse_edit("Unfit()", bench, "lane_taken", "three", 0)
        self.refuse_edit("Unfit()", bench, "lane_taken", "three", None)
        self.assertEqual(self.call(bench, "lane_taken", "rail", 1), "3")
        self.assert_same(bench["rail"], (7, 13))
        self.assertEqual(self.call(bench, "lane_taken", "rail", 0, by_name=True), "4")
        self.assert_same(bench["rail"], (13,))
        self.refuse_edit("BadMachine('form')", bench, "lane_taken", "rail", 0)
        self.refuse_edit("Unfit()", bench, "lane_taken", "rail", 1)

    def test_step_put(self):
        bench = rail_and_three()
        self.assertEqual(self.call(bench, "step_put", "three", ("sum", 2, 2)), "3")
        self.assertEqual(self.call(bench, "step_put", "three", ("in", 0, 1), by_name=True), "4")
        self.assert_same(bench["three"], THREE + (("sum", 2, 2), ("in", 0, 1)))
        for step in (("sum", 0, 5), ("sum", -1, 0), ("sum", 0), ("add", 0, 0), ("in", 9, 0), ("is", True), (), None, "is 5", 7,
                     ["is", 5], ("is", 10 ** 60 + 1), {}, (("is", 5),), ("sum", 0, False)):
            self.refuse_edit("BadProgram(('step', 5))", bench, "step_put", "three", step)
            self.refuse_edit("Unfit()", bench, "step_put", "rail", step)
        self.refuse_edit("Unfit()", bench, "step_put", "rail", ("is", 5))
        for step in (("is", 10 ** 60), ("times", 5, 5)):
            bench.step_put("three", step)
        self.refuse_edit("BadProgram(('great', 7))", bench, "step_put", "three", ("times", 6, 5))
        for _ in range(23):
            bench.step_put("three", ("is", 0))
        self.refuse_edit("BadProgram('form')", bench, "step_put", "three", ("is", 0))
        self.refuse_edit("BadProgram('form')", bench, "step_put", "three", None)

    def test_step_taken(self):
        bench = rail_and_three()
        self.refuse_edit("Unfit()", bench, "step_taken", "rail")
        self.assertEqual(self.call(bench, "step_taken", "three"), "3")
        self.assertEqual(self.call(bench, "step_taken", "three", by_name=True), "4")
        self.assert_same(bench["three"], THREE[:1])
        self.refuse_edit("BadProgram('form')", bench, "step_taken", "three")

    def test_an_edit_that_leaves_the_shelf_as_it_was(self):
        bench = rail_and_three()
        shelf = bench.shelf
        self.assertEqual(self.call(bench, "batch", (("drop", "rail"), ("keep", "rail", RAIL))), "3")
        self.assertEqual(self.call(bench, "batch", ()), "4")
        self.assert_same((bench.shelf, bench.version, bench.at(2), bench.at(3)), (shelf, 4, shelf, shelf))


class BatchTest(BenchTest):
    def test_none_twelve_and_thirteen(self):
        bench = rail_and_three()
        self.assertEqual(self.call(bench, "batch", (), by_name=True), "3")
        twelve = (("lane_put", "rail", 5), ("lane_taken", "rail", 3)) * 6
        self.assertEqual(self.call(bench, "batch", twelve), "4")
        self.assert_same(bench.log[2:], (("batch", ()), ("batch", twelve)))
        self.refuse_edit("BadBatch()", bench, "batch", twelve + twelve[:1])
        # A wrong part, and one too many at once, too.
        self.refuse_edit("BadBatch()", bench, "batch", (("drop", "x"),) * 13)

    def test_values_that_are_no_batch(self):
        bench, right = rail_and_three(), ("drop", "rail")
        for value in ODD_VALUES:
            if value != ():
                self.refuse_edit("BadBatch()", bench, "batch", value)
            self.refuse_edit("BadBatch()", bench, "batch", (right, value))
            self.refuse_edit("BadBatch()", bench, "batch", ((value, "rail"), right))
        for value in ([right], (list(right),), right, (("drop",),), (("drop", "rail", 0),), (("keep", "a"),), (("Drop", "rail"),),
                      (("batch", ()),), (("undo",),), (("redo",),), (("reach_of", "rail", (0, 0, 0)),), (("at", 0),),
                      (("step_taken", "three", 0),), (("step_put", "three"),), (("lane_put", "rail", 5, 5),), ((),),
                      (("lane_taken", "rail"),), (("copy",),), (("attempt", None),), (("drop ", "rail"),), {0: right}):
            self.refuse_edit("BadBatch()", bench, "batch", value)
            # It comes ahead of a part that would be rejected.
            if isinstance(value, tuple) and value != right:
                self.refuse_edit("BadBatch()", bench, "batch", (("drop", "x"),) + value)

    def test_rejected(self):
        bench = rail_and_three()
        for edits, place in (((("drop", "x"),), 0), ((("drop", "rail"), ("drop", "rail")), 1),
                             ((("drop", "rail"), ("lane_put", "rail", 5)), 1), ((("lane_put", "rail", 5),) * 8, 7),
                             ((("keep", "a", RAIL), ("keep", "a", RAIL), ("drop", "x")), 1), ((("keep", "none", RAIL),), 0),
                             (tuple(("keep", name, RAIL) for name in "abcdefgh"), 6), ((("drop", None),), 0),
                             ((("step_taken", "three"),) * 3, 2), ((("keep", "a", ()), ("drop", "x")), 0),
                             ((("lane_put", "rail", 5),) + (("drop", []),) * 11, 1)):
            self.refuse_edit(f"Rejected({place})", bench, "batch", edits)
        self.assertEqual(bench.version, 2)

    def test_one_behind_another_as_one_edit(self):
        bench = Bench()
        edits = (("keep", "b", RAIL), ("keep", "a", THREE), ("lane_put", "b", 5), ("lane_taken", "b", 0), ("step_taken", "a"),
                 ("step_put", "a", ("is", 7)), ("keep", "c", (2,)), ("drop", "c"), ("keep", "c", (3,)))
        self.assertEqual(self.call(bench, "batch", edits), "1")
        self.assert_same(bench.shelf, (("a", THREE[:2] + (("is", 7),)), ("b", (11, 13, 5)), ("c", (3,))))
        self.assertEqual(self.call(bench, "undo"), "0")
        self.assert_same(bench.shelf, ())
        self.assertEqual(self.call(bench, "redo"), "1")
        self.assertEqual(len(bench), 3)


class FortyTest(BenchTest):
    def forty(self):
        bench = rail_and_three()
        for turn in range(19):
            bench.lane_put("rail", 2 + turn)
            bench.lane_taken("rail", 3)
        return bench

    def test_forty_and_one_more(self):
        bench = self.forty()
        self.assertEqual((bench.version, len(bench.log)), (40, 40))
        for word, *told in (("keep", "a", RAIL), ("drop", "rail"), ("lane_put", "rail", 5), ("lane_taken", "rail", 0),
                            ("step_put", "three", ("is", 5)), ("step_taken", "three"), ("batch", ()),
                            ("batch", (("drop", "rail"),))):
            for by_name in (False, True):
                self.assertEqual(self.call(bench, word, *told, by_name=by_name), "raises TooManyEdits()")

    def test_behind_all_others(self):
        bench = self.forty()
        for written, word, *told in (("Unfit()", "keep", "none", RAIL), ("BadMachine('form')", "keep", "a", ()),
                                     ("Taken('rail')", "keep", "rail", RAIL), ("NoName('a')", "drop", "a"),
                                     ("BadMachine(('modulus', 3))", "lane_put", "rail", 1),
                                     ("Unfit()", "lane_taken", "rail", 3), ("Unfit()", "step_put", "rail", ("is", 5)),
                                     ("BadProgram(('step', 3))", "step_put", "three", ("sum", 0, 3)),
                                     ("BadBatch()", "batch", (("batch", ()),)), ("Rejected(0)", "batch", (("drop", "a"),))):
            self.assertEqual(self.call(bench, word, *told), "raises " + written)

    def test_parts_of_a_batch_do_not_count(self):
        bench = self.forty()
        bench.undo()
        self.assertEqual(self.call(bench, "batch", (("drop", "rail"), ("keep", "rail", RAIL)) * 6), "40")
        self.assertEqual(self.call(bench, "batch", ()), "raises TooManyEdits()")

    def test_taken_back_ones_do_not_count(self):
        bench = self.forty()
        self.assertEqual(self.call(bench, "undo"), "39")
        self.assertEqual(self.call(bench, "redo"), "40")
        for _ in range(40):
            bench.undo()
        self.assert_same(bench.shelf, ())
        for version in range(1, 41):
            self.assertEqual(bench.redo(), version)
        bench.undo()
        self.assertEqual(self.call(bench, "drop", "three"), "40")
        self.assertEqual(self.call(bench, "redo"), "raises NothingToRedo()")


class AskTest(BenchTest):
    def test_reach_of_and_its_errors(self):
        bench = rail_and_three()
        for guard in ((0, 0, 0), (1, 1, 0), (1, ((0, 1), (2,)), 0), (0, 0, 3), (((),), ((),), ((),))):
            for by_name in (False, True):
                self.assertEqual(self.call(bench, "reach_of", "rail", guard, by_name=by_name), repr(reach(RAIL, guard)))
        self.assertEqual(bench.made, 5)
        for guard, error in (((1, 1, 4), (2, "form")), ((1, 1), "form"), (None, "form"), ((True, 1, 0), (0, "form")),
                             ((0, ((0,), (3,)), [0]), (1, ("lot", 1))), ((0, 0, ((1,), (0,))), (2, ("order", 1)))):
            self.assertEqual(self.call(bench, "reach_of", "rail", guard), f"raises BadBook({error!r})")
            self.assertEqual(self.call(bench, "reach_of", "three", guard), "raises Unfit()")
            self.assertEqual(self.call(bench, "reach_of", "x", guard), "raises NoName('x')")
        for value in ODD_VALUES:
            if value not in ((0,) * 3,):
                self.assertIn("raises BadBook(", self.call(bench, "reach_of", "rail", value))
        self.assertEqual(bench.made, 5)

    def test_told_and_its_errors(self):
        bench = rail_and_three()
        bench.keep("great", of_inputs(10 ** 30))
        for book in (0, 1, 2, 3, ((0,), (1, 2)), ((),)):
            for by_name in (False, True):
                told = repr(told_for_all(RAIL, THREE, book))
                self.assertEqual(self.call(bench, "told", "rail", "three", book, by_name=by_name), told)
        self.assertEqual(bench.made, 6)
        for name, other, book, written in (("x", "y", 9, "NoName('x')"), ("rail", "y", 9, "NoName('y')"), ("three", "y", 9, "NoName('y')"),
                                           ("x", "rail", 9, "NoName('x')"), ("three", "rail", 9, "Unfit()"),
                                           ("rail", "rail", 9, "Unfit()"), ("three", "three", 9, "Unfit()"),
                                           ("three", "great", 0, "Unfit()"), ("rail", "great", 9, "BadBook('form')"),
                                           ("rail", "three", True, "BadBook('form')"), ("rail", "three", ((3,),), "BadBook(('lot', 0))"),
                                           ("rail", "three", ((1,), (0,)), "BadBook(('order', 1))"),
                                           ("rail", "great", 1, "TooMany(2000)"), ("rail", "great", ((),), "TooMany(2000)"),
                                           (None, "three", 0, "NoName(None)"), ("rail", ["three"], 0, "NoName(['three'])")):
            for by_name in (False, True):
                self.assertEqual(self.call(bench, "told", name, other, book, by_name=by_name), "raises " + written)
        for value in ODD_VALUES:
            self.assertEqual(self.call(bench, "told", "rail", value, 0), f"raises NoName({value!r})")
            if not isinstance(value, int) or isinstance(value, bool) or value not in range(4):
                self.assertIn("BadBook(" if value != ((),) else "True", self.call(bench, "told", "rail", "three", value))
        self.assertEqual(bench.made, 6)

    def test_made_counts_unlike_asks(self):
        bench = rail_and_three()
        bench.keep("same", RAIL)
        bench.keep("again", THREE)
        for count, (word, *told) in enumerate((("reach_of", "rail", (1, 1, 0)), ("reach_of", "rail", (((0,), (1,), (2,)), 1, 0)),
                                               ("reach_of", "rail", (0, 1, 0)), ("told", "rail", "three", 1),
                                               ("told", "rail", "three", ((0,), (1,), (2,))), ("told", "rail", "three", 0)), 1):
            self.call(bench, word, *told)
            self.assertEqual(bench.made, count)
            self.call(bench, word, *told, by_name=True)
            self.call(bench, word, *[{"rail": "same", "three": "again"}.get(item, item) if isinstance(item, str) else item
                                     for item in told])
            self.assertEqual(bench.made, count)
        # True is not 1: it is no book, and makes nothing.
        self.call(bench, "told", "rail", "three", True)
        self.call(bench, "reach_of", "rail", (1, True, 0))
        self.assertEqual(bench.made, 6)

    def test_made_is_kept_whatever_is_edited(self):
        bench = rail_and_three()
        bench.reach_of("rail", (1, 1, 0))
        bench.lane_put("rail", 5)
        self.assertEqual((bench.reach_of("rail", (1, 1, 0)), bench.made), (35, 2))
        bench.undo()
        self.assertEqual((bench.reach_of("rail", (1, 1, 0)), bench.made), (7, 2))
        bench.redo()
        self.assertEqual((bench.reach_of("rail", (1, 1, 0)), bench.made), (35, 2))
        bench.lane_taken("rail", 3)
        bench.drop("rail")
        bench.keep("other", RAIL)
        self.assertEqual((bench.reach_of("other", (1, 1, 0)), bench.made), (7, 2))

    def test_made_in_attempts_and_copies(self):
        bench = rail_and_three()

        def work(given):
            given.lane_put("rail", 5)
            given.reach_of("rail", (1, 1, 0))
            given.told("rail", "three", 1)
            raise Strayed()

        with self.assertRaises(Strayed):
            bench.attempt(work)
        self.assertEqual((bench.made, bench["rail"]), (2, RAIL))
        other = bench.copy()
        self.assertEqual(other.made, 2)
        other.lane_put("rail", 5)
        other.reach_of("rail", (1, 1, 0))
        self.assertEqual(other.made, 2)
        other.reach_of("rail", (0, 0, 0))
        self.assertEqual((other.made, bench.made), (3, 2))
        bench.reach_of("rail", (0, 0, 0))
        bench.reach_of("rail", (0, 1, 0))
        self.assertEqual((other.made, bench.made), (3, 4))
        other.reach_of("rail", (0, 0, 0))
        self.assertEqual(other.made, 3)

    def test_ten_lanes_and_252_lots(self):
        bench = bench_with(("keep", "ten", PRIMES), ("keep", "three", THREE))
        for turn in range(2):
            for guard in ((FIVES, FIVES, FIVES), (0, FIVES, 1), (MOST, 0, 0), (0, 0, MOST)):
                self.assertEqual(bench.reach_of("ten", guard), reach(PRIMES, guard))
            self.assertIs(bench.told("ten", "three", FIVES), told_for_all(PRIMES, THREE, FIVES))
            self.assertEqual(bench.made, 5)


class UndoTest(BenchTest):
    def test_undo_and_redo_by_turns(self):
        bench = rail_and_three()
        bench.lane_put("rail", 5)
        shelves = [bench.at(version) for version in range(4)]
        for version in (2, 1, 0):
            self.assertEqual(self.call(bench, "undo"), repr(version))
            self.assert_same((bench.shelf, bench.version, len(bench.log)), (shelves[version], version, version))
        self.assertEqual(self.call(bench, "undo"), "raises NothingToUndo()")
        for version in (1, 2, 3):
            self.assertEqual(self.call(bench, "redo"), repr(version))
            self.assert_same((bench.shelf, bench.version, len(bench.log)), (shelves[version], version, version))
        self.assertEqual(self.call(bench, "redo"), "raises NothingToRedo()")
        for word, version in (("undo", 2), ("undo", 1), ("redo", 2), ("undo", 1), ("redo", 2), ("redo", 3), ("undo", 2)):
            self.assertEqual(self.call(bench, word), repr(version))
            self.assert_same(bench.shelf, shelves[version])

    def test_an_edit_forgets_what_was_taken_back(self):
        bench = rail_and_three()
        bench.undo()
        self.assertIn("raises", self.call(bench, "drop", "three"))
        self.assertEqual(self.call(bench.copy(), "redo"), "2")
        bench.reach_of("rail", (0, 0, 0))
        self.assertEqual(self.call(bench.copy(), "redo"), "2")
        bench.lane_put("rail", 5)
        self.assertEqual(self.call(bench, "redo"), "raises NothingToRedo()")
        bench.undo()
        bench.batch(())
        self.assertEqual(self.call(bench, "redo"), "raises NothingToRedo()")

    def test_a_new_bench_has_nothing(self):
        self.assertEqual(self.call(Bench(), "undo"), "raises NothingToUndo()")
        self.assertEqual(self.call(Bench(), "redo"), "raises NothingToRedo()")

    def test_at(self):
        bench = rail_and_three()
        bench.lane_put("rail", 5)
        bench.undo()
        self.assert_same([bench.at(0), bench.at(1), bench.at(version=2)],
                         [(), (("rail", RAIL),), (("rail", RAIL), ("three", THREE))])
        for value in (*ODD_VALUES, 3, -1, True, False, None, "1", (1,), [0], 10 ** 399, bench):
            if repr(value) not in ("0", "1"):
                for by_name in (False, True):
                    self.assertEqual(self.call(bench, "at", value, by_name=by_name), f"raises NoVersion({value!r})")

    def test_copies_go_on_by_themselves(self):
        bench = rail_and_three()
        bench.lane_put("rail", 5)
        bench.undo()
        other = bench.copy()
        self.assertIsInstance(other, Bench)
        self.assertEqual(state_of(other), state_of(bench))
        ahead = state_of(bench)
        other.drop("three")
        self.assertEqual(self.call(other, "redo"), "raises NothingToRedo()")
        self.assertEqual(state_of(bench), ahead)
        third, behind = bench.copy(), state_of(other)
        bench.redo()
        bench.step_taken("three")
        self.assertEqual(state_of(third), ahead)
        self.assertEqual(state_of(other), behind)
        self.assertEqual(third.redo(), 3)
        self.assert_same(third["rail"], RAIL + (5,))


class AttemptTest(BenchTest):
    def test_what_work_returns(self):
        bench = Bench()
        self.assertEqual(bench.attempt(lambda given: given.keep("rail", RAIL)), 1)
        self.assertIs(bench.attempt(work=lambda given: given), bench)
        self.assertIsNone(bench.attempt(lambda given: None))
        self.assertEqual(bench.version, 1)

    def test_an_error_of_the_package_takes_all_back(self):
        bench = rail_and_three()
        bench.lane_put("rail", 5)
        bench.undo()
        ahead = state_of(bench)
        raised = NoPlan()

        def raise_it(given):
            given.redo()
            given.batch((("drop", "rail"), ("drop", "three")))
            given.undo()
            given.undo()
            given.undo()
            given.keep("a", (2,))
            raise raised

        for work, kind in ((raise_it, NoPlan), (lambda given: given.keep("a", (2,)) and given.keep("a", (2,)), Taken),
                           (lambda given: [given.undo() for _ in range(5)], LaneError),
                           (lambda given: (given.undo(), Bench().drop("x")), LaneError),
                           (lambda given: (given.drop("rail"), given["rail"]), LaneError)):
            with self.assertRaises(kind) as caught:
                bench.attempt(work)
            self.assertEqual(state_of(bench), ahead)
        with self.assertRaises(NoPlan) as caught:
            bench.attempt(raise_it)
        self.assertIs(caught.exception, raised)
        self.assertEqual(bench.redo(), 3)

    def test_another_error_leaves_what_was_done(self):
        for kind in (KeyError, ValueError, ZeroDivisionError, TypeError, RuntimeError, StopIteration, AttributeError):
            bench = rail_and_three()

            def work(given):
                given.drop("rail")
                raise kind("no")

            with self.assertRaises(kind):
                bench.attempt(work)
            self.assert_same((bench.version, bench.shelf), (3, (("three", THREE),)))

    def test_one_within_another(self):
        bench = rail_and_three()

        def inner(given):
            given.drop("three")
            raise TooMany(8)

        def caught(given):
            given.lane_put("rail", 5)
            try:
                given.attempt(inner)
            except TooMany as error:
                self.assertEqual(error.limit, 8)
            given.lane_put("rail", 3)

        bench.attempt(caught)
        self.assert_same((bench.version, bench.shelf), (4, (("rail", RAIL + (5, 3)), ("three", THREE))))
        ahead = state_of(bench)

        def not_caught(given):
            given.drop("rail")
            given.attempt(inner)

        with self.assertRaises(TooMany):
            bench.attempt(not_caught)
        self.assertEqual(state_of(bench), ahead)

        def other_inside(given):
            given.drop("rail")
            given.attempt(lambda again: (again.drop("three"), [][0]))

        with self.assertRaises(IndexError):
            bench.attempt(other_inside)
        self.assert_same(bench.shelf, ())

        def turned(given):
            given.undo()
            try:
                given.attempt(lambda again: (again.undo(), {}["x"]))
            except KeyError:
                raise Unfit() from None

        ahead = state_of(bench)
        with self.assertRaises(Unfit):
            bench.attempt(turned)
        self.assertEqual(state_of(bench), ahead)

    def test_as_an_edit_it_does_not_count(self):
        bench = rail_and_three()
        bench.undo()
        bench.attempt(lambda given: given.shelf)
        self.assertEqual(self.call(bench, "redo"), "2")


class ModelTest(BenchTest):
    """Benches beside plain ones, which know their edits alone."""

    def check_state(self, bench, model):
        self.assert_same(bench.shelf, model.shelf())
        self.assert_same((bench.version, bench.log, bench.made), (len(model.edits), tuple(model.edits), len(model.asks)))
        self.assert_same(list(bench), sorted(model.things()))
        self.assertEqual(len(bench), len(model.things()))

    def step(self, chance, bench, model):
        word = chance.choice(EDITS + EDITS + ("keep",) * 4 + ("undo", "redo", "at") + ("reach_of", "told") * 3)
        told = arguments_by(chance, word, bench)
        try:
            wanted = repr(model.edit(word, *told) if word in EDITS else getattr(model, word)(*told))
        except Refused as refused:
            wanted = f"raises {refused}"
        names = dict(zip(METHODS[word], told)) if chance.randint(0, 1) else {}
        outcome = Outcome(getattr(bench, word), () if names else told, names)
        self.assertEqual(outcome.written(), wanted, (word, told))
        return outcome

    def test_many_steps(self):
        chance, kinds = Random(251), {}
        for _ in range(50):
            bench, model = Bench(), PlainBench()
            for _ in range(200):
                outcome = self.step(chance, bench, model)
                kind = outcome.error.__class__.__name__
                kinds[kind] = kinds.get(kind, 0) + 1
                self.check_state(bench, model)
                if chance.randint(0, 30) == 0:
                    bench, model = bench.copy(), model.copy()
        for kind in ("NoneType", "NoName", "Unfit", "Taken", "BadMachine", "BadProgram", "BadBook", "BadBatch", "Rejected",
                     "NothingToUndo", "NothingToRedo", "NoVersion", "TooMany", "TooManyEdits"):
            self.assertGreater(kinds.get(kind, 0), 3, kinds)

    def test_attempts(self):
        chance = Random(252)
        for _ in range(150):
            bench, model = Bench(), PlainBench()
            for _ in range(chance.randint(0, 8)):
                self.step(chance, bench, model)
            self.attempt(chance, bench, model, 0)
            self.check_state(bench, model)
            while model.undone:
                self.assertEqual(bench.redo(), model.redo())
            self.check_state(bench, model)

    def attempt(self, chance, bench, model, depth):
        """Do some steps in an attempt, which may hold others, and end in an error of some kind or in none."""
        edits, undone, ends = list(model.edits), list(model.undone), chance.choice((Strayed, KeyError, None, None))

        def work(given):
            self.assertIs(given, bench)
            for _ in range(chance.randint(0, 6)):
                self.step(chance, bench, model)
                if depth < 2 and chance.randint(0, 3) == 0:
                    try:
                        self.attempt(chance, bench, model, depth + 1)
                    except (Strayed, KeyError):
                        if chance.randint(0, 1):
                            raise
            if ends is not None:
                raise ends()

        try:
            bench.attempt(work)
        except Strayed:
            model.edits, model.undone = edits, undone
            if depth > 0:
                raise
        except KeyError:
            if depth > 0:
                raise


if __name__ == "__main__":
    unittest.main()
