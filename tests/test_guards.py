"""What machines bear: D3, D4, and what D7 says of them."""

import unittest
from itertools import combinations, product
from math import lcm, prod
from random import Random

from straylanes.guards import bears, reach, strength, weakest
from straylanes.spans import span_of
from tests import plain
from tests.lanesamples import FIVES, GREAT, GREAT_PRIMES, MOST, PRIMES, SMALL, TOP, book_by, guard_by, lot_books
from tests.support import LaneTest


def least_span(machine, many):
    """Return the least span of any so many lanes."""
    return min(lcm(*moduli) for moduli in combinations(machine, max(0, many)))


class GuardTest(LaneTest):
    def reach(self, machine, guard):
        """Return reach, and check that weakest and bears fit it."""
        told = self.tell(reach, machine=machine, guard=guard)
        choice = self.tell(weakest, machine=machine, guard=guard)
        self.assertTrue(plain.is_choice(machine, guard, choice), (machine, guard, choice))
        self.assert_same(plain.span_outside(machine, *choice), told)
        for many, borne in ((1, True), (told - 1, True), (told, True), (told + 1, False), (told * 2, False)):
            if many > 0:
                self.assert_same(self.tell(bears, machine=machine, many=many, guard=guard), borne)
        return told


class ReachTest(GuardTest):
    def test_told_ones(self):
        for machine, guard, told in (((7, 11, 13), (0, 0, 0), 1001), ((7, 11, 13), (3, 0, 0), 1),
                                     ((7, 11, 13), (0, 0, 2), 7), ((7, 11, 13), (0, 3, 0), 1), ((5,), (0, 0, 0), 5),
                                     ((5,), (0, 1, 0), 1), ((6, 6), (0, 0, 1), 6), ((6, 6), (1, 0, 0), 1),
                                     ((7, 8, 9, 12), (1, 1, 0), 24), ((7, 8, 9, 12), (0, 0, 1), 72),
                                     ((7, 11, 13), (((0,), (2,)), 0, 0), 11), ((7, 11, 13), (((0, 2),), 0, 0), 11),
                                     ((7, 11, 13), (0, ((0, 2), (1,)), 0), 11), ((7, 11, 13), (((),), ((),), ((),)), 1001),
                                     ((7, 11, 13), (((0,),), ((1,),), ((2,),)), 1),
                                     ((7, 11, 13), (((0,),), ((0,),), ((0,),)), 143)):
            self.assert_same(self.reach(machine, guard), told)

    def test_one_lot_taken_twice_and_seen_in_the_place_of_right(self):
        # right lets both lots of a choice; seen lets the second one alone.
        self.assert_same(self.reach((7, 11, 13), (((0,), (1,)), 0, 0)), 13)
        self.assert_same(self.reach((7, 11, 13), (0, ((0,), (1,)), 0)), 91)
        self.assert_same(self.reach((7, 11, 13), (((0,), (1,)), ((2,),), 0)), 7)

    def test_all_numbers_against_going_through_all_lots(self):
        for machine in SMALL:
            for guard in product(range(len(machine) + 1), repeat=3):
                self.assert_same(self.reach(machine, guard), plain.reach(machine, guard))

    def test_all_books_of_one_lane_and_of_two(self):
        for machine in ((5,), (4, 6), (5, 5), (3, 2)):
            books = lot_books(machine) + list(range(len(machine) + 1))
            for guard in product(books, repeat=3):
                self.assert_same(reach(machine, guard), plain.reach(machine, guard))

    def test_all_books_of_three_lanes(self):
        for machine in ((4, 6, 9), (7, 11, 13)):
            for book in lot_books(machine):
                for guard in ((book, 0, 0), (0, book, 0), (0, 1, book), (book, ((1,),), 0)):
                    self.assert_same(reach(machine, guard), plain.reach(machine, guard))

    def test_some_books_against_going_through_all_lots(self):
        chance = Random(41)
        for machine in SMALL:
            for _ in range(60):
                guard = guard_by(chance, machine)
                self.assert_same(self.reach(machine, guard), plain.reach(machine, guard))

    def test_ten_lanes_and_great_moduli(self):
        for machine in GREAT:
            lanes = len(machine)
            for right, seen, still in ((0, 0, 0), (1, 1, 0), (1, 2, 1), (2, 1, 0), (0, 3, 2), (3, 3, 3), (2, 2, 2)):
                if max(right, seen, still) <= lanes:
                    told = least_span(machine, lanes - right - max(right, seen) - still)
                    self.assert_same(self.reach(machine, (right, seen, still)), told)

    def test_ten_lanes_with_books_of_lots(self):
        chance = Random(42)
        for machine in GREAT:
            for _ in range(3):
                guard = tuple(book_by(chance, machine, 8) for _ in range(3))
                books = [plain.all_lots(machine) if isinstance(book, int) else book for book in guard]
                books = [[lot for lot in lots if len(lot) <= book] if isinstance(book, int) else lots
                         for lots, book in zip(books, guard)]
                lost = {frozenset((*one, *other)) for one in books[0] for other in (*books[0], *books[1])}
                lost = {one | frozenset(third) for one in lost for third in books[2]}
                self.assert_same(self.reach(machine, guard), min(plain.span_outside(machine, lanes) for lanes in lost))

    def test_as_many_lots_as_there_may_be(self):
        for machine in (PRIMES, GREAT_PRIMES):
            self.assert_same(self.reach(machine, (FIVES, FIVES, FIVES)), 1)
            self.assert_same(self.reach(machine, (FIVES, 0, 0)), 1)
            self.assert_same(self.reach(machine, (0, FIVES, 0)), prod(sorted(machine)[:5]))
            self.assert_same(self.reach(machine, (0, 0, MOST)), min(plain.span_outside(machine, lot) for lot in MOST))
            self.assert_same(self.reach(machine, (0, FIVES, 1)), prod(sorted(machine)[:4]))
            self.assert_same(self.reach(machine, (2, FIVES, ((0,),))), prod(sorted(machine[1:])[:2]))

    def test_without_common_divisors_the_least_moduli(self):
        for machine in (PRIMES, GREAT_PRIMES, (13, 7, 11), (9, 8, 5, 7)):
            for right in range(len(machine) + 1):
                for seen in range(right, len(machine) + 1):
                    left = max(0, len(machine) - right - seen)
                    self.assert_same(self.reach(machine, (right, seen, 0)), prod(sorted(machine)[:left]))

    def test_books_that_let_more_have_no_greater_reach(self):
        chance = Random(43)
        for machine in SMALL:
            for _ in range(30):
                guard = guard_by(chance, machine)
                told = reach(machine, guard)
                for place, book in enumerate(guard):
                    more = list(guard)
                    if isinstance(book, int):
                        more[place] = min(book + 1, len(machine))
                    else:
                        more[place] = tuple(sorted({*book, chance.choice(plain.all_lots(machine))}))
                    self.assertLessEqual(reach(machine, tuple(more)), told)

    def test_a_lane_more_makes_it_no_less(self):
        chance = Random(44)
        for machine in SMALL:
            for _ in range(30):
                guard = guard_by(chance, machine)
                self.assertGreaterEqual(reach(machine + (chance.randint(2, 30),), guard), reach(machine, guard))

    def test_with_a_bound_on_lots_alone(self):
        chance = Random(45)
        for machine in SMALL:
            for _ in range(30):
                one, other, third = [chance.choice(plain.all_lots(machine)) for _ in range(3)]
                left = tuple(lane for lane in range(len(machine)) if lane not in one + other + third)
                both = span_of(machine, tuple(lane for lane in range(len(machine)) if lane not in one + third))
                told = min(span_of(machine, left), both)
                self.assert_same(self.reach(machine, ((one,), (other,), (third,))), told)


class StrengthTest(LaneTest):
    def strength(self, machine, many):
        return self.tell(strength, machine=machine, many=many)

    def test_told_ones(self):
        for machine, many, told in (((5,), 1, 1), ((5,), 2, 0), ((5,), 5, 0), ((5,), 6, -1), ((5,), 10 ** 61, -1),
                                    ((2, 2), 1, 2), ((2, 2), 2, 0), ((2, 2), 3, -1), ((2, 2, 2), 2, 1),
                                    ((7, 8, 9, 12), 24, 1), ((7, 8, 9, 12), 25, 0), ((7, 8, 9, 12), 505, -1)):
            self.assert_same(self.strength(machine, many), told)

    def test_the_greatest_that_is_borne(self):
        for machine in SMALL:
            whole = lcm(*machine)
            for many in sorted({*range(1, 60), whole - 1, whole, whole + 1, 2 * whole}):
                borne = [t for t in range(len(machine) + 1) if plain.reach(machine, (t, t, 0)) >= many] if many < 20 \
                    else [t for t in range(len(machine) + 1) if reach(machine, (t, t, 0)) >= many]
                self.assert_same(self.strength(machine, many), max([-1] + borne))

    def test_ten_lanes_and_great_moduli(self):
        for machine in GREAT:
            lanes = len(machine)
            self.assert_same(self.strength(machine, 1), lanes)
            for t in range(lanes + 1):
                least = least_span(machine, lanes - 2 * t)
                self.assertGreaterEqual(self.strength(machine, least), t)
                self.assertLess(self.strength(machine, least + 1), t)
            self.assert_same(self.strength(machine, 2 * TOP + 1), -1)


if __name__ == "__main__":
    unittest.main()
