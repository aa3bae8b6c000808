"""Books and guards, what they let, and their greatest lots: D1, D2."""

import unittest
from itertools import combinations
from random import Random

from straylanes.books import book_error, guard_error, is_let, lots_of
from tests import plain
from tests.lanesamples import FIVES, MOST, PRIMES, SMALL, book_by, lot_books
from tests.support import LaneTest, ODD_VALUES

THREE = (7, 11, 13)


class BookErrorTest(LaneTest):
    def error(self, value, machine=THREE):
        return self.tell(book_error, machine=machine, value=value)

    def test_numbers(self):
        for machine in SMALL + (PRIMES,):
            for value in range(len(machine) + 1):
                self.assert_same(self.error(value, machine), None)
            for value in (-1, len(machine) + 1, -(10 ** 399), 10 ** 399):
                self.assert_same(self.error(value, machine), "form")

    def test_bools_are_no_numbers(self):
        self.assert_same([self.error(value) for value in (True, False, (True,), ((0, True),), ((False,),))],
                         ["form", "form", ("lot", 0), ("lot", 0), ("lot", 0)])

    def test_lots(self):
        for value in (((),), ((0, 1, 2),), ((), (0,), (0, 1), (0, 1, 2), (0, 2), (1,), (1, 2), (2,)), ((2,),)):
            self.assert_same(self.error(value), None)

    def test_how_many_lots(self):
        lots = tuple(sorted(plain.all_lots(PRIMES)))
        self.assertEqual(len(FIVES), 252)
        for value in (FIVES, MOST, lots[:252], lots[-252:]):
            self.assert_same(self.error(value, PRIMES), None)
        for value in (lots[:253], lots, ()):
            self.assert_same(self.error(value, PRIMES), "form")

    def test_no_lots(self):
        for item in ([0], (3,), (-1,), (1, 0), (0, 0), (0, 1, 1), (0, 1, 2, 3), 0, None, "0", ("0",), (None,), ((0,),),
                     {0: 1}, (0, [1]), (0, 10 ** 399), (0,) * 4000, [], True, "", (1, True)):
            self.assert_same(self.error((item,)), ("lot", 0))
            self.assert_same(self.error(((0,), item)), ("lot", 1))

    def test_order(self):
        for value, place in ((((0,), (0,)), 1), (((1,), (0,)), 1), (((0,), ()), 1), (((0, 1), (0,)), 1),
                             (((0,), (1,), (0, 2)), 2), (((0,), (1,), (1,), (0,)), 2), (((), ()), 1)):
            self.assert_same(self.error(value), ("order", place))

    def test_the_first_word_that_applies(self):
        # A list of lots is no tuple of them; a lot that is none comes ahead of any order.
        self.assert_same(self.error([(1,), (0,)]), "form")
        self.assert_same(self.error(((1,), (0,), (3,))), ("lot", 2))
        self.assert_same(self.error(((1,), (3,), (0,), (4,))), ("lot", 1))
        self.assert_same(self.error(((9,),) * 253), "form")

    def test_any_value(self):
        for value in ODD_VALUES:
            told = self.error(value)
            if isinstance(value, tuple) and 1 <= len(value) <= 252:
                self.assert_same(told, None if value in (((),),) else ("order", 1) if value == ((), (), ())
                                 else ("lot", 0))
            else:
                self.assert_same(told, None if value in (0, 1) and value is not True and value is not False else "form")

    def test_lots_of_all_books_are_books(self):
        for machine in SMALL[:6]:
            for value in lot_books(machine):
                self.assert_same(self.error(value, machine), None)
                self.assert_same(book_error(machine, value[::-1]), None if len(value) == 1 else ("order", 1))
                self.assert_same(book_error(machine, list(value)), "form")


class IsLetTest(LaneTest):
    def let(self, machine, book, lanes):
        return self.tell(is_let, machine=machine, book=book, lanes=lanes)

    def test_numbers_let_any_so_many(self):
        for many in range(4):
            for lanes in plain.all_lots(THREE):
                self.assert_same(self.let(THREE, many, lanes), len(lanes) <= many)

    def test_lots_let_what_is_within_one_of_them(self):
        book = ((0, 1), (1, 2))
        for lanes, told in (((), True), ((0,), True), ((1,), True), ((2,), True), ((0, 1), True), ((1, 2), True),
                            ((0, 2), False), ((0, 1, 2), False)):
            self.assert_same(self.let(THREE, book, lanes), told)
        self.assert_same([self.let(THREE, ((),), ()), self.let(THREE, ((),), (0,))], [True, False])

    def test_all_books(self):
        for machine in SMALL[:6] + (THREE,):
            for book in lot_books(machine):
                for lanes in plain.all_lots(machine):
                    self.assert_same(is_let(machine, book, lanes), plain.lets(book, lanes))

    def test_ten_lanes(self):
        for lanes in plain.all_lots(PRIMES):
            self.assert_same(is_let(PRIMES, FIVES, lanes), len(lanes) <= 5)
            self.assert_same(is_let(PRIMES, MOST, lanes), plain.lets(MOST, lanes))


class LotsOfTest(LaneTest):
    def lots(self, machine, book):
        return self.tell(lots_of, machine=machine, book=book)

    def test_numbers(self):
        self.assert_same(self.lots(THREE, 0), ((),))
        self.assert_same(self.lots(THREE, 2), ((0, 1), (0, 2), (1, 2)))
        self.assert_same(self.lots(THREE, 3), ((0, 1, 2),))
        for many in range(11):
            self.assert_same(self.lots(PRIMES, many), tuple(combinations(range(10), many)))

    def test_lots(self):
        for book, told in ((((),), ((),)), (((), (1,)), ((1,),)), (((0,), (0, 1), (0, 1, 2)), ((0, 1, 2),)),
                           (((0, 2), (1,), (2,)), ((0, 2), (1,))), (((0,), (1, 2), (2,)), ((0,), (1, 2)))):
            self.assert_same(self.lots(THREE, book), told)

    def test_all_books(self):
        for machine in SMALL[:6] + (THREE,):
            for book in lot_books(machine):
                told = tuple(lot for lot in book if not any(set(lot) < set(other) for other in book))
                self.assert_same(lots_of(machine, book), told)

    def test_ten_lanes_and_252_lots(self):
        self.assert_same(self.lots(PRIMES, FIVES), FIVES)
        chance = Random(31)
        lots = plain.all_lots(PRIMES)
        books = [MOST] + [tuple(sorted(chance.sample(lots, many))) for many in (1, 2, 5, 20, 100, 252)]
        for book in books:
            told = tuple(lot for lot in book if not any(set(lot) < set(other) for other in book))
            self.assert_same(self.lots(PRIMES, book), told)

    def test_what_a_book_lets_is_what_lies_within_them(self):
        chance = Random(32)
        for machine in SMALL:
            for _ in range(20):
                book = book_by(chance, machine)
                lots = lots_of(machine, book)
                self.assert_same(book_error(machine, lots), None)
                for lanes in plain.all_lots(machine):
                    self.assert_same(is_let(machine, lots, lanes), is_let(machine, book, lanes))


class GuardErrorTest(LaneTest):
    def error(self, value, machine=THREE):
        return self.tell(guard_error, machine=machine, value=value)

    def test_guards(self):
        for value in ((0, 0, 0), (3, 3, 3), (((),), 1, ((0, 1), (2,))), (0, 3, ((1,),))):
            self.assert_same(self.error(value), None)

    def test_no_triples(self):
        for value in ((), (0,), (0, 0), (0, 0, 0, 0), [0, 0, 0], 0, None, "000", {0: 0, 1: 0, 2: 0}, True):
            self.assert_same(self.error(value), "form")

    def test_the_first_book_that_is_none(self):
        for value, told in (((4, 4, 4), (0, "form")), ((0, -1, 4), (1, "form")), ((0, 0, True), (2, "form")),
                            ((((3,),), 4, 4), (0, ("lot", 0))), ((0, ((0,), (0,)), 9), (1, ("order", 1))),
                            ((((0,),), ((0,),), ((0,), [1])), (2, ("lot", 1))), ((0, [], ()), (1, "form"))):
            self.assert_same(self.error(value), told)

    def test_any_value(self):
        for value in ODD_VALUES:
            told = self.error(value)
            if isinstance(value, tuple) and len(value) == 3:
                self.assertIn(told, ((0, "form"), (0, ("lot", 0))))
            else:
                self.assert_same(told, "form")
            for place in range(3):
                guard = [0, ((0,),), 1]
                guard[place] = value
                wrong = book_error(THREE, value)
                self.assert_same(self.error(tuple(guard)), None if wrong is None else (place, wrong))


if __name__ == "__main__":
    unittest.main()
