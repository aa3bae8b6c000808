"""Shells: K7, and what K8 says of them."""

import unittest
from random import Random

from straylanes.benches import Bench
from straylanes.shells import Shell
from tests.plainshell import LINES, PlainShell
from tests.support import LaneTest, ODD_VALUES, edits_of

SET_UP = ("machine rail 7 11 13", "program three in 0 6; is 3; times 0 1")
# A line of each form, told to a shell that was set up; none of them is refused but one.
RIGHT = (("machine a 2 3", "version 3"), ("program b is 5", "version 3"), ("drop rail", "version 3"), ("lane rail 5", "version 3"),
         ("unlane rail 0", "version 3"), ("step three in 0 9", "version 3"), ("step three is -5", "version 3"),
         ("step three sum 2 2", "version 3"), ("step three less 1 0", "version 3"), ("step three times 0 2", "version 3"),
         ("unstep three", "version 3"), ("undo", "version 1"), ("redo", "error NothingToRedo"), ("names", "rail three"),
         ("show rail", "machine 7 11 13"), ("show three", "program in 0 6; is 3; times 0 1"), ("reach rail 1 1 0", "7"),
         ("told rail three 1", "yes"), ("told rail three 3", "no"), ("made", "0"), ("run three 4", "12"),
         ("tell rail 0 6 1 3 5 3", "3"), ("tell rail 0 100 0 2 - 9", "error Unsure"), ("tell rail 0 100 0 2 1 9", "100"))
MOST = "9" * 61


def shell_with(*lines):
    shell = Shell()
    for line in lines:
        assert shell.say(line).startswith("version ")
    return shell


class ShellTest(LaneTest):
    def said(self, shell, line, told):
        self.assert_same(shell.say(line), told)

    def both(self, line, told, *more):
        """Check what is said to a line by a shell that was set up, by place and by name."""
        self.said(shell_with(*SET_UP, *more), line, told)
        self.assert_same(shell_with(*SET_UP, *more).say(line=line), told)


class LineTest(ShellTest):
    def test_right_lines(self):
        for line, told in RIGHT:
            self.both(line, told)

    def test_all_forms_stand_among_them(self):
        for form in LINES:
            start = form.split(" ")[0]
            self.assertTrue(any(line.split(" ")[0] == start for line, _ in RIGHT), form)

    def test_a_blank_more_or_less(self):
        for line, told in RIGHT:
            for at, sign in enumerate(line):
                if sign == " ":
                    self.check_against_plain(line[:at] + line[at + 1:])
                    self.check_against_plain(line[:at] + " " + line[at:])
            for turned in (" " + line, line + " ", line + "\n", "\n" + line, line.upper(), line.replace(" ", "\t")):
                self.check_against_plain(turned)
                if turned != line and line in ("undo", "redo", "names", "made"):
                    self.both(turned, "what")

    def check_against_plain(self, line):
        shell, plain = shell_with(*SET_UP), PlainShell()
        for row in SET_UP:
            plain.say(row)
        self.said(shell, line, plain.say(line))
        for row in ("names", "show rail", "show three", "show a", "made", "undo", "redo", "redo"):
            self.said(shell, row, plain.say(row))

    def test_one_sign_changed(self):
        for line, _ in RIGHT:
            for turned in edits_of(line, "0 9-,;a\nN"):
                self.check_against_plain(turned)

    def test_what_is_no_line(self):
        for line in ("", " ", "\n", "what", "Undo", "undo undo", "undo rail", "redo 1", "names all", "made 0", "drop", "drop ",
                     "drop  ", "drop rail ", "drop  rail", "drop rail three", "machine", "machine ", "machine rail", "machine  7",
                     "machine  ", "program", "program p", "program  is 5", "lane", "lane rail", "lane rail ", "lane rail x",
                     "lane rail 05", "lane rail +5", "lane rail 5 5", "lane rail -0", "lane rail 5.0", "lane  5", "unlane rail",
                     "unlane rail 00", "unlane rail x", "step", "step three", "step three ", "step three in", "step three in 0",
                     "step three in 0 9 9", "step three in 0  9", "step three is", "step three is 1 2", "step three sum 0",
                     "step three sum 0 0 0", "step three add 0 0", "step three In 0 9", "step three  is 5", "step  is 5",
                     "step three is 05", "step three is x", "step three times", "step three less 0", "step three is 5 ",
                     "unstep", "unstep ", "unstep three 1", "show", "show ", "show rail three", "reach rail", "reach rail 1 1",
                     "reach rail 1 1 0 0", "reach rail 1 1 x", "reach rail 1 1 00", "reach  1 1 0", "reach rail 1,1,0",
                     "told rail three", "told rail", "told rail three x", "told rail three 1 1", "told rail  1", "told  three 1",
                     "run three", "run three ", "run three 1,", "run three ,1", "run three 1,,2", "run three 1, 2", "run three x",
                     "run three 01", "run three -0", "run three None", "run three none,1", "run three 1,none", "run  4",
                     "run three 4 4", "run three ()", "tell rail", "tell rail 0 6 1", "tell rail 0 6 x 3 5 3",
                     "tell rail 0 06 1 3 5 3", "tell  0 6 1 3 5 3", "tell rail 0  6 1 3 5 3", "keep rail 7", "lane_put rail 5",
                     "batch ()", "copy", "version", "at 0", "shelf", "log", "attempt x", "names names", "x rail 7"):
            self.both(line, "what")

    def test_what_is_no_string(self):
        for value in (*ODD_VALUES, b"undo", ["undo"], ("undo",), Bench(), Shell(), ValueError("undo")):
            if not isinstance(value, str):
                self.both(value, "what")
            else:
                self.check_against_plain(value)


class FiguresTest(ShellTest):
    def test_61_and_62_figures(self):
        for line, told in (("lane rail {}", "error BadMachine"), ("unlane rail {}", "error Unfit"),
                           ("step three is {}", "error BadProgram"), ("step three in 0 {}", "error BadProgram"),
                           ("step three sum 0 {}", "error BadProgram"), ("reach rail 0 0 {}", "error BadBook"),
                           ("told rail three {}", "error BadBook"), ("run three {}", "error Unfit"),
                           ("run three 1,{}", "error Unfit"), ("tell rail 0 {} 0 3 5 3", "error Unfit"),
                           ("tell rail 0 9 {} 3 5 3", "error BadBook")):
            for figures in (MOST, "1" + "0" * 59 + "1", "-" + MOST):
                self.both(line.format(figures), told)
            for figures in (MOST + "9", "-" + MOST + "9", "0" + MOST[1:], "-0" + MOST[1:], "1" * 400, "1" * 10000):
                self.both(line.format(figures), "what")

    def test_the_greatest_numbers(self):
        top = 10 ** 60
        self.both(f"step three is {top}", "version 3")
        self.both(f"step three is {-top}", "version 3")
        self.both(f"step three in {-top} {top}", "version 3")
        self.both(f"step three is {top + 1}", "error BadProgram")
        self.both(f"run same {top}", str(top), f"program same in {-top} {top}")
        self.both(f"run square {-top}", str(top * top), f"program square in {-top} {top}; times 0 0")
        self.both(f"tell rail {-top} {top} 0 3 3 3", "error Unsure")
        self.both(f"tell rail {top} {top} 3 3 3 3", str(top))

    def test_integers_below_0(self):
        self.both("lane rail -5", "error BadMachine")
        self.both("unlane rail -1", "error Unfit")
        self.both("step three in -9 -3", "version 3")
        self.both("reach rail -1 0 0", "error BadBook")
        self.both("run low -3", "-3", "program low in -5 -1")
        self.both("tell rail -50 50 0 5 2 4", "-9")


class AnswerTest(ShellTest):
    def test_names_and_show(self):
        shell = Shell()
        for line, told in (("names", "none"), ("show rail", "error NoName"), ("machine z 2", "version 1"), ("names", "z"),
                           ("program a is -5; times 0 0", "version 2"), ("names", "a z"), ("show a", "program is -5; times 0 0"),
                           ("show z", "machine 2"), ("drop z", "version 3"), ("names", "a"), ("show z", "error NoName"),
                           ("drop a", "version 4"), ("names", "none")):
            self.said(shell, line, told)

    def test_machine_and_program(self):
        for line, told in (("machine a 7  11", "error BadText"), ("machine a ", "error BadText"), ("machine a 07", "error BadText"),
                           ("machine a 1", "error BadText"), ("machine a 7 ", "error BadText"), ("machine a 7,11", "error BadText"),
                           ("machine a " + "7 " * 10 + "7", "error BadText"), ("machine a 1000001", "error BadText"),
                           ("machine a is 5", "error BadText"), ("machine a 7\n", "error BadText"), ("machine a " + "7 " * 9 + "7", "version 3"),
                           ("program a 7 11", "error BadText"), ("program a ", "error BadText"), ("program a is 5;is 6", "error BadText"),
                           ("program a in 0 9; sum 0 1", "error BadText"), ("program a is 5; is 6", "version 3"),
                           ("machine rail 2", "error Taken"), ("program rail is 5", "error Taken"), ("machine none 2", "error Unfit"),
                           ("machine A 2", "error Unfit"), ("machine a\n 2", "error Unfit"), ("machine abcdefghi 2", "error Unfit"),
                           ("machine abcdefgh 2", "version 3"), ("program a1 is 5", "error Unfit"), ("machine 7 7", "error Unfit")):
            self.both(line, told)
        # The text is read ahead of all that the bench raises.
        self.both("machine rail x", "error BadText")
        self.both("machine none x", "error BadText")
        self.both("program rail x", "error BadText")

    def test_edits(self):
        for line, told in (("drop x", "error NoName"), ("drop none", "error NoName"), ("drop a\nb", "error NoName"),
                           ("lane x 5", "error NoName"), ("lane three 5", "error Unfit"), ("lane rail 1", "error BadMachine"),
                           ("unlane three 0", "error Unfit"), ("unlane rail 3", "error Unfit"), ("unlane x 0", "error NoName"),
                           ("step x is 5", "error NoName"), ("step rail is 5", "error Unfit"), ("step three sum 0 3", "error BadProgram"),
                           ("step three in 9 0", "error BadProgram"), ("step three times -1 0", "error BadProgram"),
                           ("unstep rail", "error Unfit"), ("unstep x", "error NoName")):
            self.both(line, told)
        self.both("unlane one 0", "error BadMachine", "machine one 5")
        self.both("unstep one", "error BadProgram", "program one is 5")

    def test_undo_and_redo(self):
        shell = shell_with(*SET_UP)
        for line, told in (("undo", "version 1"), ("undo", "version 0"), ("undo", "error NothingToUndo"), ("redo", "version 1"),
                           ("names", "rail"), ("redo", "version 2"), ("redo", "error NothingToRedo"), ("undo", "version 1"),
                           ("drop rail", "version 2"), ("redo", "error NothingToRedo"), ("names", "none")):
            self.said(shell, line, told)

    def test_bounds_of_the_bench(self):
        shell = Shell()
        for name in "abcdefgh":
            self.said(shell, f"machine {name} 2", f"version {'abcdefgh'.index(name) + 1}")
        self.said(shell, "machine i 2", "error TooMany")
        for version in range(9, 41):
            self.said(shell, f"lane a {version}" if version < 18 else "lane b 2" if version < 27 else
                      f"lane {'cdefgh'[version % 6]} 2", f"version {version}")
        self.said(shell, "drop a", "error TooManyEdits")
        self.said(shell, "drop x", "error NoName")
        self.said(shell, "undo", "version 39")
        self.said(shell, "drop a", "version 40")

    def test_reach_and_told(self):
        for line, told in (("reach rail 0 0 0", "1001"), ("reach rail 0 1 0", "77"), ("reach rail 3 0 0", "1"),
                           ("reach x 9 9 9", "error NoName"), ("reach three 9 9 9", "error Unfit"), ("reach rail 0 0 4", "error BadBook"),
                           ("told rail three 0", "yes"), ("told rail three 4", "error BadBook"), ("told x y 9", "error NoName"),
                           ("told three y 9", "error NoName"), ("told three rail 9", "error Unfit"), ("told rail rail 0", "error Unfit"),
                           ("told three three 0", "error Unfit")):
            self.both(line, told)
        self.both("told rail great 1", "error TooMany", "program great in 0 2000")
        self.both("told rail great 9", "error BadBook", "program great in 0 2000")
        self.both("told rail most 0", "no", "program most in 0 1999")
        shell = shell_with(*SET_UP)
        for line, told in (("made", "0"), ("reach rail 1 1 0", "7"), ("reach rail 1 1 0", "7"), ("made", "1"), ("told rail three 1", "yes"),
                           ("made", "2"), ("reach rail 1 1 9", "error BadBook"), ("made", "2"), ("lane rail 5", "version 3"),
                           ("reach rail 1 1 0", "35"), ("undo", "version 2"), ("reach rail 1 1 0", "7"), ("made", "3")):
            self.said(shell, line, told)

    def test_run(self):
        for line, told in (("run three 0", "0"), ("run three 6", "18"), ("run three 7", "error Unfit"), ("run three -1", "error Unfit"),
                           ("run three none", "error Unfit"), ("run three 1,2", "error Unfit"), ("run rail none", "error Unfit"),
                           ("run rail 1", "error Unfit"), ("run x none", "error NoName"), ("run x 1,2,3", "error NoName"),
                           ("run none none", "error NoName")):
            self.both(line, told)
        self.both("run five none", "5", "program five is 5")
        self.both("run five 5", "error Unfit", "program five is 5")
        self.both("run two 2,9", "-7", "program two in 0 9; in 0 9; less 0 1")

    def test_tell(self):
        for line, told in (("tell rail 0 6 1 3 5 3", "3"), ("tell rail 0 60 1 2 1 9", "error Unsure"),
                           ("tell rail 0 60 0 2 1 9", "error Strayed"), ("tell rail 0 90 0 2 - 9", "9"), ("tell rail 5 5 3 - - -", "5"),
                           ("tell rail 0 200 0 - - -", "error Unsure")):
            self.both(line, told)
        # Each thing wrong, the others too that come behind it.
        for line, told in (("tell x 9 0 9 3 5", "error NoName"), ("tell three 9 0 9 3 5", "error Unfit"),
                           ("tell rail 9 0 9 3 5", "error BadText"), ("tell rail 9 0 9 ", "error BadText"),
                           ("tell rail 9 0 9 3  5 3", "error BadText"), ("tell rail 9 0 9 3 5 13", "error BadText"),
                           ("tell rail 9 0 9 3 5 3\n", "error BadText"), ("tell rail 9 0 9 3 5 3", "error Unfit"),
                           ("tell rail 0 9 4 3 5 0", "error BadBook"), ("tell rail 0 9 -1 3 5 0", "error BadBook"),
                           ("tell rail 0 9 0 3 5 0", "error Strayed")):
            self.both(line, told)

    def test_two_shells_do_not_meet(self):
        one, other = Shell(), Shell()
        self.said(one, "machine rail 7 11 13", "version 1")
        self.said(other, "names", "none")
        self.said(other, "undo", "error NothingToUndo")
        self.said(other, "program rail is 5", "version 1")
        self.said(one, "reach rail 0 0 0", "1001")
        self.said(other, "made", "0")
        self.said(one, "show rail", "machine 7 11 13")


class PlainTest(ShellTest):
    def test_many_lines(self):
        chance, kinds = Random(271), {}
        for _ in range(40):
            shell, plain = Shell(), PlainShell()
            for _ in range(120):
                line = line_by(chance)
                told = plain.say(line)
                self.assert_same(shell.say(line), told)
                kind = told.split(" ")[0] if not told.startswith("error") else told
                kinds[kind if not kind.lstrip("-").isdigit() else "number"] = kinds.get(kind, 0) + 1
        for kind in ("what", "version", "number", "machine", "program", "yes", "no", "none", "error NoName", "error Unfit",
                     "error BadText", "error BadMachine", "error BadProgram", "error BadBook", "error Taken", "error Strayed",
                     "error Unsure", "error NothingToUndo", "error NothingToRedo"):
            self.assertIn(kind, kinds)


def line_by(chance):
    form = chance.choice(LINES + LINES[:2] * 4 + LINES[15:17] * 2 + LINES[18:] * 2)
    words = []
    for part in form.split(" "):
        if part == "NAME":
            words.append(chance.choice(("rail", "rail", "b", "three", "three", "p", "none", "a1")))
        elif part == "INT":
            words.append(chance.choice(("0", "1", "1", "2", "3", "7", "60", "-5", "05", MOST)))
        elif part == "INTS":
            words.append(chance.choice(("none", "4", "1", "1,2", "0,0", "-1", "1,", "9")))
        elif part == "TEXT":
            texts = ("7 11 13", "7 11 13", "2 3", "3 5 3", "3 - 3", "1 1", "x") if form.startswith(("machine", "tell")) else \
                ("is 5", "in 0 6; is 3; times 0 1", "in 0 6; is 3; times 0 1", "in 0 9; in 0 9; sum 0 1", "in 0 3000", "is")
            words.append(chance.choice(texts))
        else:
            words.append(part)
    line = " ".join(words)
    return line if chance.randint(0, 19) else chance.choice((line + " ", line.replace(" ", "  ", 1), line[:-1], line.upper()))


if __name__ == "__main__":
    unittest.main()
