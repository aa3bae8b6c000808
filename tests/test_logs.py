"""Logs of edit tuples: K6, and what K8 says of them."""

import unittest
from random import Random

from straylanes.benches import Bench
from straylanes.errors import LaneError
from straylanes.logs import bench_behind, log_text, read_log
from tests.benchsamples import EDITS, METHODS, RAIL, THREE, arguments_by, bench_with, state_of
from tests.samples import of_inputs
from tests.support import LaneTest, ODD_VALUES, edits_of

HULL = 10 ** 120
# Edit tuples and their texts, whatever their arguments are.
TEXTS = (
    (("keep", "rail", RAIL), "(keep,rail,(7,11,13))"),
    (("keep", "three", THREE), "(keep,three,((in,0,6),(is,3),(times,0,1)))"),
    (("drop", "rail"), "(drop,rail)"), (("drop", 7), "(drop,7)"), (("drop", ()), "(drop,())"), (("drop", ((),)), "(drop,(()))"),
    (("lane_put", "rail", 5), "(lane_put,rail,5)"), (("lane_taken", "rail", -1), "(lane_taken,rail,-1)"),
    (("step_put", "three", ("sum", 2, 2)), "(step_put,three,(sum,2,2))"), (("step_taken", "three"), "(step_taken,three)"),
    (("batch", ()), "(batch,())"), (("batch", (("drop", "a"), ("drop", "b"))), "(batch,((drop,a),(drop,b)))"),
    (("batch", (("drop", "a"),)), "(batch,((drop,a)))"), (("batch", 0), "(batch,0)"), (("keep", (), ()), "(keep,(),())"),
    (("keep", "_", "a_b_c_d_e_"), "(keep,_,a_b_c_d_e_)"), (("keep", "abcdefghij", "none"), "(keep,abcdefghij,none)"),
    (("drop", HULL), f"(drop,{HULL})"), (("drop", -HULL), f"(drop,{-HULL})"), (("drop", (0, -5, 10)), "(drop,(0,-5,10))"),
    (("drop", ((((((0,),),),),),)), "(drop,((((((0)))))))"), (("drop", (((((((),),),),),),)), "(drop,((((((())))))))"),
    (("drop", ((), (), ((), 1), "a")), "(drop,((),(),((),1),a))"), (("drop", (("keep",), (1,))), "(drop,((keep),(1)))"),
)
# Lines that are the text of no edit tuple.
WRONG = (
    "", "drop", "()", "(drop)", "(drop,)", "(drop,a,b)", "(keep,a)", "(drop,a", "drop,a)", "drop,a", "((drop,a))", "(drop,a))",
    "(drop,a)(drop,b)", "(drop,a),(drop,b)", "(drop,a) ", " (drop,a)", "(drop, a)", "(drop ,a)", "(Drop,a)", "(drop,A)",
    "(drop,a1)", "(drop,1a)", "(drop,07)", "(drop,-0)", "(drop,00)", "(drop,+7)", "(drop,--7)", "(drop,-)", "(drop,7-)",
    "(drop,abcdefghijk)", "(drop,___________)", f"(drop,{HULL + 1})", f"(drop,{-HULL - 1})", "(drop,7.0)", "(drop,1_0)",
    "(drop,'a')", "(drop,a,)", "(,drop,a)", "(drop,,a)", "(drop,(,))", "(drop,(a,))", "(drop,(,a))", "(drop,(a)", "(drop,a(b))",
    "(drop,(a)b)", "(drop,(a)(b))", "(drop,()())", "(drop,a()", "(drop)a", "(drop,)a(", ")drop,a(", "(undo)", "(redo)", "(made)",
    "(reach_of,rail,(0,0,0))", "(undo,a)", "(at,0)", "(batch)", "(batch,(),())", "(7,a)", "((),a)", "((drop),a)", "(_,a)", "7", "a",
    "(drop," + "(" * 8 + "0" + ")" * 9, "(drop," + "(" * 8 + ")" * 9, "(drop,(((((0))))", "((((((((((", "))))))))", "(" * 20000, "(" * 9 + ")" * 9, ",", ",,", "(,)",
    "(drop,None)", "(drop,\ta)", "(drop,a)\r", "(step_taken,a,b)", "(lane_put,a)", "(step_put,a)", "(drop,a;b)", "[drop,a]",
    "(drop,7" + "0" * 121 + ")", "(drop," + "9" * 19000 + ")",
)


def deep(many, inner=0):
    """Return a value with so many brackets open at once."""
    for _ in range(many):
        inner = (inner,)
    return inner


class TextTest(LaneTest):
    def test_texts_there_and_back(self):
        self.assert_same(self.tell(log_text, edits=()), "")
        self.assert_same(self.tell(read_log, value=""), ())
        for edit, text in TEXTS:
            self.assert_same(self.tell(log_text, edits=(edit,)), text + "\n")
            self.assert_same(self.tell(read_log, value=text + "\n"), (edit,))
        edits, lines = tuple(edit for edit, _ in TEXTS), [text + "\n" for _, text in TEXTS]
        self.assert_same(self.tell(log_text, edits=edits), "".join(lines))
        self.assert_same(self.tell(read_log, value="".join(lines)), edits)

    def test_eight_brackets_and_nine(self):
        for many in range(1, 8):
            for inner in (0, "a", -5):
                edit = ("drop", deep(many, inner))
                self.assert_same(self.tell(read_log, value=log_text((edit,))), (edit,))
        self.assert_same(self.tell(read_log, value=log_text((("drop", deep(6, ())),))), (("drop", deep(6, ())),))
        for value in (deep(8), deep(7, ()), deep(20), (0, deep(7, ()), 0), (deep(7),), deep(8, "a")):
            text = "(drop," + str(value).replace(",)", ")").replace(" ", "").replace("'", "") + ")\n"
            self.refuse("BadLog(0)", read_log, value=text)

    def test_unlike_edits_have_unlike_texts(self):
        chance, texts = Random(261), {}
        for _ in range(4000):
            row = tuple(edit_by(chance) for _ in range(chance.randint(0, 3)))
            self.assertEqual(texts.setdefault(log_text(row), row), row)
            self.assert_same(read_log(log_text(row)), row)
        self.assertGreater(len(texts), 2000)


def value_by(chance, brackets):
    turn = chance.randint(0, 5)
    if turn <= 1 and brackets < 8:
        return tuple(value_by(chance, brackets + 1) for _ in range(chance.randint(0, 3)))
    if turn <= 3:
        return chance.choice((0, 1, -1, 7, 10, -10, HULL, -HULL, chance.randint(-99, 99)))
    return chance.choice(("a", "_", "in", "is", "drop", "batch", "none", "abcdefghij", "step_taken"))


def edit_by(chance):
    word = chance.choice(EDITS)
    return (word, *[value_by(chance, 1) for _ in METHODS[word]])


class ReadTest(LaneTest):
    def test_lines_that_are_wrong(self):
        right = "(drop,a)\n"
        for line in WRONG:
            self.refuse("BadLog(0)", read_log, value=line + "\n")
            self.refuse("BadLog(2)", read_log, value=right * 2 + line + "\n")
            self.refuse("BadLog(1)", read_log, value=right + line + "\n" + right + line + "\n")
            # Behind the last line feed it is no line.
            self.assert_same(self.tell(read_log, value=right + line), (("drop", "a"),))

    def test_any_value(self):
        for value in (*ODD_VALUES, ("(drop,a)\n",), b"(drop,a)\n", ["(drop,a)\n"], Bench(), LaneError()):
            if not isinstance(value, str):
                self.refuse("BadLog(0)", read_log, value=value)
            elif "\n" in value:
                self.refuse("BadLog(0)", read_log, value=value)
            else:
                self.assert_same(self.tell(read_log, value=value), ())

    def test_cut_anywhere(self):
        edits = tuple(edit for edit, _ in TEXTS)
        text = log_text(edits)
        for end in range(len(text) + 1):
            told = read_log(text[:end])
            self.assertEqual(told, edits[:text[:end].count("\n")])

    def test_one_sign_changed(self):
        right, wrong = 0, 0
        for edit, line in TEXTS[:13]:
            for turned in edits_of(line, "(),-_a0 \n1A"):
                text = turned + "\n"
                try:
                    told = read_log(text)
                except LaneError as error:
                    self.assertEqual(error.__class__.__name__, "BadLog")
                    place = error.place
                    self.assertTrue(0 <= place < text.count("\n"))
                    lines = text.split("\n")
                    # The lines ahead are right, this one is not.
                    self.assertEqual(log_text(read_log("".join(row + "\n" for row in lines[:place]))),
                                     "".join(row + "\n" for row in lines[:place]))
                    self.refuse("BadLog(0)", read_log, value=lines[place] + "\n")
                    wrong += 1
                    continue
                # What is read is written as it was, so it is the text of that and of nothing else.
                self.assertEqual(log_text(told), text)
                self.assertEqual(told == (edit,), turned == line)
                right += 1
        self.assertGreater(min(right, wrong), 100)

    def test_signs_beyond_ascii(self):
        for sign in ("\u0663", "\u00e9", "\u00b2", "\uff11", "\u2028", "\x00"):
            self.refuse("BadLog(0)", read_log, value=f"(drop,{sign})\n")
            self.refuse("BadLog(0)", read_log, value=f"(drop,a{sign})\n")

    def test_long_logs(self):
        steps = (("in", -(10 ** 60), 10 ** 60),) * 30
        edits = (("batch", (("keep", "a", steps), ("drop", "a")) * 6),) * 40
        text = log_text(edits)
        self.assertGreater(len(text), 10 ** 5)
        self.assert_same(read_log(text), edits)
        with self.assertRaises(LaneError):
            read_log(text + text[:-2] + "\n")


class BehindTest(LaneTest):
    def test_benches_behind_their_logs(self):
        self.assertEqual(state_of(bench_behind(())), state_of(Bench()))
        bench = bench_with(("keep", "rail", RAIL), ("keep", "three", THREE), ("lane_put", "rail", 5), ("drop", "three"),
                           ("batch", (("keep", "b", (2,)), ("lane_taken", "rail", 0))), ("batch", ()))
        bench.undo()
        for edits in (bench.log, read_log(log_text(bench.log))):
            behind = bench_behind(edits)
            self.assertTrue(behind == bench and isinstance(behind, Bench) and behind is not bench)
            self.assert_same((behind.version, behind.log, behind.made), (5, bench.log, 0))
            for version in range(4, -1, -1):
                self.assertEqual(behind.undo(), version)
                self.assert_same(behind.shelf, bench.at(version))
        self.assertEqual(bench_behind(edits=bench.log), bench)

    def test_the_first_that_raises(self):
        keep = ("keep", "rail", RAIL)
        for edits, place in (((("drop", "rail"),), 0), ((keep, keep), 1), ((keep, ("drop", "rail"), ("drop", "rail"), keep), 2),
                             ((keep, ("batch", (("drop", "x"),))), 1), ((("batch", 7),), 0), ((keep, ("lane_put", "rail", 1)), 1),
                             ((keep, ("step_taken", "rail")), 1), ((("keep", (), None),), 0), ((keep, ("drop", ["rail"])), 1),
                             ((("batch", ()),) * 41, 40), ((("batch", ()),) * 50, 40), ((("batch", (("batch", ()),)),), 0),
                             (tuple(("keep", name, RAIL) for name in "abcdefghi"), 8)):
            ahead = repr(edits)
            self.refuse(f"BadLog({place})", bench_behind, edits=edits)
            self.assertEqual(repr(edits), ahead)
        self.assertEqual(bench_behind((("batch", ()),) * 40).version, 40)

    def test_what_raises_nothing_stands(self):
        bench = bench_behind(read_log("(keep,rail,(7,11,13))\n(keep,p,((in,0,6),(is,-3),(times,0,1)))\n(lane_put,rail,5)\n(drop"))
        self.assert_same(bench.shelf, (("p", (("in", 0, 6), ("is", -3), ("times", 0, 1))), ("rail", RAIL + (5,))))

    def test_logs_of_many_benches(self):
        chance = Random(262)
        for _ in range(40):
            bench = Bench()
            for _ in range(80):
                word = chance.choice(EDITS + ("keep", "keep", "undo", "redo"))
                try:
                    getattr(bench, word)(*arguments_by(chance, word, bench))
                except LaneError:
                    pass
            text = log_text(bench.log)
            behind = bench_behind(read_log(text))
            self.assertEqual(behind, bench)
            self.assert_same((behind.log, behind.version), (bench.log, bench.version))
            self.assert_same([behind.at(version) for version in range(bench.version + 1)],
                             [bench.at(version) for version in range(bench.version + 1)])

    def test_great_ones(self):
        bench = Bench()
        bench.keep("p", of_inputs(*(10 ** 60,) * 15))
        bench.step_put("p", ("is", -(10 ** 60)))
        self.assertEqual(bench_behind(read_log(log_text(bench.log))), bench)


if __name__ == "__main__":
    unittest.main()
