"""Texts of programs: B6, and what A8 says of texts."""

import re
import unittest

from straylanes.programs import program_error
from straylanes.programtexts import program_text, read_program
from tests.samples import GREAT, SQUARE, runs_by
from tests.support import LaneTest, ODD_VALUES, edits_of

TOP = 10 ** 60
PROGRAMS = (
    ((("is", 5),), "is 5"), ((("is", -5),), "is -5"), ((("is", 0),), "is 0"), ((("in", -3, -3),), "in -3 -3"),
    (SQUARE, "in -3 3; times 0 0; is 2; less 1 2"),
    ((("in", 0, 9), ("is", 3), ("sum", 0, 1)), "in 0 9; is 3; sum 0 1"),
    ((("is", TOP),), "is 1" + "0" * 60), ((("is", -TOP),), "is -1" + "0" * 60),
    ((("is", TOP - 1),), "is " + "9" * 60),
    ((("in", -TOP, TOP), ("times", 0, 0)), "in -1" + "0" * 60 + " 1" + "0" * 60 + "; times 0 0"),
    ((("is", 10),) * 30, "; ".join(["is 10"] * 30)),
    ((("is", 1),) * 29 + (("less", 28, 10),), "is 1; " * 29 + "less 28 10"),
)
STEP = re.compile(r"(?:in (?:-?[1-9][0-9]*|0) (?:-?[1-9][0-9]*|0)|is (?:-?[1-9][0-9]*|0)"
                  r"|(?:sum|less|times) (?:[1-9][0-9]*|0) (?:[1-9][0-9]*|0))")


def told_program(text):
    """Read a text by a pattern of its own; None if it is that of no program."""
    parts = re.split("; ", text)
    if not all(STEP.fullmatch(part) for part in parts):
        return None
    words = [part.split(" ") for part in parts]
    program = tuple((word[0], *map(int, word[1:])) for word in words)
    return program if program_error(program) is None else None


class ProgramTextTest(LaneTest):
    def refused(self, *texts):
        for text in texts:
            self.refuse("BadText()", read_program, value=text)

    def test_there_and_back(self):
        for program, text in PROGRAMS:
            self.assert_same(self.tell(program_text, program=program), text)
            self.assert_same(self.tell(read_program, value=text), program)
        for program in (GREAT, *(program for _, program, _, _ in runs_by(11, 100))):
            self.assert_same(self.tell(read_program, value=self.tell(program_text, program=program)), program)

    def test_what_is_no_string(self):
        for value in ODD_VALUES + (5, ("is", 5), (("is", 5),), ["is 5"], ("is 5",), {"is 5": 0}):
            if value != "is 5":
                self.refuse("BadText()", read_program, value=value)

    def test_blanks(self):
        self.refused("", " ", " is 5", "is 5 ", "is  5", "is5", "is\t5", "is 5\t", "is\n5", "is 5\n", "\nis 5",
                     "is\u00a05", "in 0  9", "in  0 9", "in 0 9 ", "in 0\t9", "in 09", "in0 9", "is 5; is  6",
                     "is 5 ; is 6")

    def test_semicolons(self):
        self.refused("; ", ";", "is 5;", "is 5; ", "; is 5", ";is 5", "is 5;is 6", "is 5;; is 6", "is 5; ; is 6",
                     "is 5;  is 6", "is 5 is 6", "is 5, is 6", "is 5: is 6", "is 5;\nis 6", "is 5;\tis 6", "is 5\nis 6",
                     "is 5; is 6;", "is 5; is 6; ")

    def test_integers(self):
        for part in ("", "x", "+5", "--5", "-", "-0", "+0", "05", "-05", "00", "5-", "5_0", "_5", "5.", "5.0", "5e1",
                     "0x5", "\u0665", "5\u0665", "\u00b2", "\uff15", "\u22125", "None", "True", "(5)", "is", "9" * 61,
                     "1" + "0" * 59 + "1", "1" + "0" * 61, "9" * 62, "-" + "9" * 61, "9" * 5000, "-" + "9" * 5000,
                     "0" * 5000, "1" + "0" * 19000):
            self.refused("is " + part, "in 0 " + part, "in " + part + " 9", "is 5; is " + part, "is 5; sum 0 " + part,
                         "is 5; less " + part + " 0", "is " + part + "; is 5")

    def test_numbers_at_the_bounds_and_one_beyond(self):
        self.refused("is 1" + "0" * 59 + "1", "is -1" + "0" * 59 + "1", "in 0 1" + "0" * 59 + "1",
                     "in -1" + "0" * 59 + "1 0")
        self.assert_same(self.tell(read_program, value="in 0 1" + "0" * 60), (("in", 0, TOP),))

    def test_words(self):
        self.refused("5", "is", "in", "sum", "in 5", "is 5 6", "in 0 9 9", "in 0", "IS 5", "Is 5", "IN 0 9", "out 0 9",
                     "5 is", "i 5", "iss 5", "5 5", "- 5", "is 5; sum 0", "is 5; sum 0 0 0", "is 5; SUM 0 0",
                     "is 5; Less 0 0", "is 5; TIMES 0 0", "is 5; add 0 0", "is 5; sum", "none", "is 5; none",
                     "'is' 5", " 5")

    def test_steps_that_are_not_ahead(self):
        for word in ("sum", "less", "times"):
            self.refused(word + " 0 0", f"is 5; {word} 0 1", f"is 5; {word} 1 0", f"is 5; {word} 2 0",
                         f"is 5; {word} -1 0", f"is 5; {word} 0 -1", f"is 5; {word} 0 29", f"{word} 1 1; is 5")
            self.assert_same(self.tell(read_program, value=f"is 5; {word} 0 0"), (("is", 5), (word, 0, 0)))

    def test_empty_stretches(self):
        self.refused("in 9 0", "in 1 0", "in 0 -1", "in -5 -9", "is 5; in 9 0")

    def test_how_many_steps(self):
        self.refused("; ".join(["is 5"] * 31), "; ".join(["is 5"] * 1000))
        self.assert_same(self.tell(read_program, value="; ".join(["is 5"] * 30)), (("is", 5),) * 30)

    def test_hulls_beyond_the_bound(self):
        top = "is 1" + "0" * 60
        self.assert_same(self.tell(read_program, value=top + "; times 0 0"), (("is", TOP), ("times", 0, 0)))
        self.refused(top + "; times 0 0; times 0 1", top + "; times 0 0; sum 0 1", top + "; times 0 0; is -1; less 1 2")

    def test_each_edit_of_a_text(self):
        for text in ("in -3 30; times 0 0; less 1 0", "is 0; sum 0 0", "in 0 9; is 10", "is -5"):
            for edited in edits_of(text, "-+_0 1;\t\nI\u0663"):
                told = told_program(edited)
                if told is None:
                    self.refused(edited)
                else:
                    self.assert_same(self.tell(read_program, value=edited), told)


if __name__ == "__main__":
    unittest.main()
