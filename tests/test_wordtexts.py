"""Texts of machines and words: A7, and what A8 says of them."""

import re
import unittest

from straylanes.machines import machine_error, word_error
from straylanes.wordtexts import machine_text, read_machine, read_word, word_text
from tests.support import LaneTest, ODD_VALUES, edits_of

MACHINES = (((2,), "2"), ((7,), "7"), ((10 ** 6,), "1000000"), ((7, 11, 13), "7 11 13"), ((6, 6, 10), "6 6 10"),
            ((999999, 10, 100, 1000), "999999 10 100 1000"), ((2,) * 10, "2 2 2 2 2 2 2 2 2 2"),
            ((10 ** 6,) * 10, " ".join(["1000000"] * 10)))
WORDS = (((7, 11, 13), (3, None, 5), "3 - 5"), ((7, 11, 13), (0, 0, 0), "0 0 0"), ((7, 11, 13), (6, 10, 12), "6 10 12"),
         ((7, 11, 13), (None,) * 3, "- - -"), ((7, 11, 13), (None, 10, None), "- 10 -"), ((2,), (None,), "-"),
         ((2,), (0,), "0"), ((2,), (1,), "1"), ((10 ** 6,), (999999,), "999999"), ((10 ** 6,), (100000,), "100000"),
         ((11,) * 10, (10,) * 10, "10 10 10 10 10 10 10 10 10 10"), ((2,) * 10, (None,) * 10, "- - - - - - - - - -"))
NO_STRINGS = tuple(value for value in ODD_VALUES if not isinstance(value, str))
NO_STRINGS += (7, (7, 11), [7, 11], ["7 11"], ("7",), {"7": 11}, {"7 11": 0})
NO_INTEGERS = ("", " ", "  ", "x", "7x", "x7", "7.", "7.0", "7e1", "0x7", "1_0", "_7", "7_", "+7", "-7", "--7", "-0",
               "+-7", "7-", "7+", "07", "007", "00", "-07", "7,", "7;", "\t7", "7\t", "\n7", "7\n", "7\r", "7\x0b",
               "\u00a07", "\u06637", "7\u0663", "\u0667", "\u00b2", "\uff17", "\u0967", "\u2460", "\u22127", "None",
               "True", "(7)", "'7'", "9" * 5000, "1" + "0" * 19000, "0" * 5000, "0" * 5000 + "7", "-" + "9" * 5000,
               "9" * 61, "9" * 62, "1" + "0" * 60)


class MachineTextTest(LaneTest):
    def test_there_and_back(self):
        for machine, text in MACHINES:
            self.assert_same(self.tell(machine_text, machine=machine), text)
            self.assert_same(self.tell(read_machine, value=text), machine)

    def test_what_is_no_string(self):
        for value in NO_STRINGS:
            self.refuse("BadText()", read_machine, value=value)

    def test_what_is_no_integer(self):
        for part in NO_INTEGERS:
            for text in (part, part + " 11", "11 " + part, "11 " + part + " 13", "11  " + part):
                self.refuse("BadText()", read_machine, value=text)

    def test_blanks(self):
        for text in ("", " ", " 7", "7 ", "7  11", " 7 11", "7 11 ", "7 11  13", "7\t11", "7 \t11", "7\n11", "7 11\n",
                     "\n7 11", "7 11\t", "7\u00a011", "7\u200311", "7,11", "7, 11", "7;11"):
            self.refuse("BadText()", read_machine, value=text)

    def test_moduli_at_the_bounds_and_one_beyond(self):
        self.assert_same(self.tell(read_machine, value="2 1000000"), (2, 10 ** 6))
        for text in ("1", "0", "1000001", "2 1", "2 0", "2 1000001", "1 2", "1000001 2", "2000000"):
            self.refuse("BadText()", read_machine, value=text)

    def test_how_many_lanes(self):
        self.assert_same(self.tell(read_machine, value="7 7 7 7 7 7 7 7 7 7"), (7,) * 10)
        self.refuse("BadText()", read_machine, value="7 7 7 7 7 7 7 7 7 7 7")
        self.refuse("BadText()", read_machine, value=" ".join(["7"] * 5000))

    def test_silence_is_of_words_alone(self):
        for text in ("-", "7 -", "- 7", "7 - 13"):
            self.refuse("BadText()", read_machine, value=text)

    def test_each_edit_of_a_text(self):
        for text in ("7 11 130", "2 1000000", "9"):
            for edited in edits_of(text, "-+_0 1\t\n;\u0663"):
                parts = re.split(" ", edited)
                told = None
                if all(re.fullmatch("0|[1-9][0-9]*", part) for part in parts):
                    told = tuple(map(int, parts))
                if told is None or machine_error(told) is not None:
                    self.refuse("BadText()", read_machine, value=edited)
                else:
                    self.assert_same(self.tell(read_machine, value=edited), told)


class WordTextTest(LaneTest):
    def test_there_and_back(self):
        for machine, word, text in WORDS:
            self.assert_same(self.tell(word_text, word=word), text)
            self.assert_same(self.tell(read_word, machine=machine, value=text), word)

    def test_what_is_no_string(self):
        for value in NO_STRINGS:
            self.refuse("BadText()", read_word, machine=(7,), value=value)
            self.refuse("BadText()", read_word, machine=(7, 11), value=value)

    def test_what_is_no_integer(self):
        for part in NO_INTEGERS:
            self.refuse("BadText()", read_word, machine=(10 ** 6,), value=part)
            for text in (part + " 11", "11 " + part, "- " + part, part + " -"):
                self.refuse("BadText()", read_word, machine=(10 ** 6,) * 2, value=text)

    def test_blanks_and_signs(self):
        for text in ("", " ", " 3 - 5", "3 - 5 ", "3  - 5", "3 -  5", "3 -5", "3- 5", "3 -- 5", "- -", "---", "- - - -",
                     "3\t-\t5", "3 - 5\n", "\n3 - 5", "3\n- 5", "3 + 5", "3 _ 5", "3 - +5", "3 - -5", "-3 - 5",
                     "3 None 5", "3 \u2212 5", "3 \u2013 5"):
            self.refuse("BadText()", read_word, machine=(7, 11, 13), value=text)

    def test_rests_at_the_bounds_and_one_beyond(self):
        machine = (7, 11, 10 ** 6)
        self.assert_same(self.tell(read_word, machine=machine, value="6 10 999999"), (6, 10, 999999))
        self.assert_same(self.tell(read_word, machine=machine, value="0 0 0"), (0, 0, 0))
        for text in ("7 10 999999", "6 11 999999", "6 10 1000000", "-1 0 0", "0 -1 0", "0 0 -1"):
            self.refuse("BadText()", read_word, machine=machine, value=text)

    def test_how_many_items(self):
        for text in ("", "3", "3 5", "3 5 5 5", "- -", "- - - -"):
            self.refuse("BadText()", read_word, machine=(7, 11, 13), value=text)
        self.refuse("BadText()", read_word, machine=(2,) * 10, value="1 1 1 1 1 1 1 1 1 1 1")
        self.refuse("BadText()", read_word, machine=(2,) * 10, value="1 1 1 1 1 1 1 1 1")

    def test_the_text_of_a_word_of_another_machine(self):
        self.assert_same(self.tell(read_word, machine=(7, 11, 13), value="3 - 12"), (3, None, 12))
        for machine in ((7, 11, 12), (3, 11, 13), (7, 11), (7, 11, 13, 2), (12,)):
            self.refuse("BadText()", read_word, machine=machine, value="3 - 12")

    def test_each_edit_of_a_text(self):
        machine = (7, 11, 130)
        for text in ("3 - 101", "- 10 0", "0 0 0"):
            for edited in edits_of(text, "-+_0 1\t\n;\u0663"):
                parts = re.split(" ", edited)
                told = None
                if all(re.fullmatch("-|0|[1-9][0-9]*", part) for part in parts):
                    told = tuple(None if part == "-" else int(part) for part in parts)
                if told is None or word_error(machine, told) is not None:
                    self.refuse("BadText()", read_word, machine=machine, value=edited)
                else:
                    self.assert_same(self.tell(read_word, machine=machine, value=edited), told)


if __name__ == "__main__":
    unittest.main()
