"""Choosing lanes: J1 to J5, and what J6 says of them."""

import unittest
from itertools import combinations
from math import lcm, prod
from random import Random

from straylanes.guards import bears
from straylanes.stocks import cheapest, least_more, outdoes, stock_error
from tests.lanesamples import GREAT, GREAT_PRIMES, PRIMES, SMALL, TOP
from tests.support import LaneTest, ODD_VALUES

STOCK = ((7, 2), (8, 1), (9, 3), (11, 4), (12, 1))


def least_span(machine, t):
    """Return the least span of the lanes, any 2 * t of them left out."""
    return min(lcm(*lanes) for lanes in combinations(machine, max(0, len(machine) - 2 * t)))


def does(machine, many, t):
    return len(machine) >= t and least_span(machine, t) >= many


def all_places(stock):
    return [places for many in range(1, len(stock) + 1) for places in combinations(range(len(stock)), many)]


def price_of(stock, places):
    return sum(stock[place][1] for place in places)


def doing(stock, many, t):
    """Return all places that do."""
    return [places for places in all_places(stock) if does([stock[place][0] for place in places], many, t)]


def stock_by(chance, longest=6, most=14):
    return tuple((chance.randint(2, most), chance.choice((0, 1, 2, 3, 5, 999))) for _ in range(chance.randint(1, longest)))


class StockErrorTest(LaneTest):
    def error(self, value):
        return self.tell(stock_error, value=value)

    def test_stocks(self):
        for value in (STOCK, ((2, 0),), ((10 ** 6, 999),), ((7, 2),) * 8, ((2, 999), (10 ** 6, 0))):
            self.assert_same(self.error(value), None)

    def test_form(self):
        for value in ((), [], list(STOCK), ((7, 2),) * 9, None, "stock", 7, True, {7: 2}, ((),) * 9):
            self.assert_same(self.error(value), "form")

    def test_items_that_are_none(self):
        for item in ((1, 2), (0, 2), (-7, 2), (10 ** 6 + 1, 2), (7, -1), (7, 1000), (7, True), (True, 2), (7, None), (None, 2),
                     ("7", 2), (7, "2"), (7,), (7, 2, 3), (), [7, 2], 7, None, "72", ((7,), 2), (7, (2,)), (10 ** 399, 2),
                     {7: 2, 8: 3}):
            self.assert_same(self.error((item,)), ("item", 0))
            self.assert_same(self.error(((7, 2), item, item)), ("item", 1))
            self.assert_same(self.error(((7, 2),) * 7 + (item,)), ("item", 7))
            self.assert_same(self.error((item,) * 9), "form")

    def test_any_value(self):
        for value in ODD_VALUES:
            several = isinstance(value, tuple) and 1 <= len(value) <= 8
            self.assert_same(self.error(value), ("item", 0) if several else "form")
            self.assert_same(self.error(((7, 2), value)), ("item", 1))
            self.assert_same(self.error(((7, 2), (value, 2))), None if repr(value) == "5" else ("item", 1))
            self.assert_same(self.error(((7, 2), (7, value))), None if repr(value) in ("0", "1", "5") else ("item", 1))


class CheapestTest(LaneTest):
    def check(self, stock, many, t):
        """Check cheapest by going through all places; return the price."""
        told = self.tell(cheapest, stock=stock, many=many, t=t)
        found = doing(stock, many, t)
        if not found:
            self.assert_same(told, None)
            return None
        price, places = told
        self.assertIsInstance(told, tuple)
        self.assertIn(places, found)
        self.assert_same(price, price_of(stock, places))
        self.assertEqual(price, min(price_of(stock, other) for other in found))
        return price

    def test_told_ones(self):
        for many, t, price in ((50, 1, 10), (70, 1, 11), (73, 1, None), (50, 0, 3), (1, 2, 2), (8, 2, None), (7, 2, 11),
                               (1, 0, 1), (1, 1, 1), (1, 5, 11), (1, 6, None), (1, 8, None), (5544, 0, 10), (5545, 0, None),
                               (2, 0, 1), (12, 0, 1), (13, 0, 2), (24, 0, 2), (25, 0, 3), (2 * TOP + 1, 0, None)):
            self.assertEqual(self.check(STOCK, many, t), price, (many, t))

    def test_against_going_through_all_places(self):
        chance, seen = Random(241), {True: 0, False: 0}
        for _ in range(500):
            stock, t = stock_by(chance), chance.choice((0, 0, 1, 1, 1, 2, 2, 3, 8))
            whole = least_span([modulus for modulus, _ in stock], t)
            many = chance.choice((1, 2, whole, whole + 1, max(1, whole - 1), chance.randint(1, whole), max(1, whole // 5)))
            seen[self.check(stock, many, t) is None] += 1
        self.assertGreater(min(seen.values()), 60, seen)

    def test_places_that_cost_nothing(self):
        self.assertEqual(self.check(((7, 0), (8, 0), (9, 0)), 50, 0), 0)
        self.assertEqual(self.check(((7, 0), (11, 5), (13, 0)), 7, 1), 5)
        self.assertEqual(self.check(((7, 0),), 1, 1), 0)
        self.assertEqual(self.check(((2, 0),), 3, 0), None)

    def test_great_moduli_and_eight_places(self):
        stock = tuple((modulus, 100 + place) for place, modulus in enumerate(GREAT_PRIMES[:8]))
        for many, t in ((TOP, 0), (10 ** 40, 0), (10 ** 24 // 2, 2), (10 ** 23, 2), (10 ** 12, 3), (999900, 3), (999900, 2),
                        (1, 4), (1, 8), (2, 4), (prod(GREAT_PRIMES[:8]), 0), (prod(GREAT_PRIMES[:8]) + 1, 0)):
            self.check(stock, many, t)
        alike = ((10 ** 6, 1), (10 ** 6, 0), (10 ** 6, 999), (500000, 3), (999999, 10), (10 ** 6, 2), (2, 0), (999998, 7))
        for many in (1, 2, 10 ** 6, 10 ** 6 + 1, 10 ** 11, 10 ** 12, 10 ** 18):
            for t in range(5):
                self.check(alike, many, t)

    def test_more_strayers_or_numbers_or_fewer_items_are_never_cheaper(self):
        chance = Random(242)
        for _ in range(150):
            stock, many, t = stock_by(chance), chance.randint(1, 60), chance.randint(0, 2)
            told = cheapest(stock, many, t)
            shorter = stock[:-1] or stock
            for other in (cheapest(stock, many, t + 1), cheapest(stock, many + chance.randint(1, 9), t),
                          cheapest(shorter, many, t)):
                self.assertTrue(other is None or told is not None and told[0] <= other[0])


class OutdoesTest(LaneTest):
    def outdoes(self, one, other):
        return self.tell(outdoes, one=one, other=other)

    def test_told_ones(self):
        for one, other, told in (((7, 11, 13), (7, 8, 9), True), ((7, 8, 9), (7, 11, 13), False),
                                 ((2, 3, 5, 7), (6, 35), True), ((7,), (2, 2), True), ((7,), (2, 2, 2), False),
                                 ((5, 6, 7), (4, 4, 4, 300), False), ((4, 4, 4, 300), (5, 6, 7), False),
                                 ((6, 6), (6,), True), ((6,), (6, 6), True), ((2,), (3,), False), ((3,), (2,), True),
                                 ((2, 2), (3,), False), ((4, 4), (2, 3), False), ((2, 3), (4, 4), True),
                                 ((210,), (2, 3, 5, 7), False), ((2, 3, 5, 7), (210,), True)):
            self.assert_same(self.outdoes(one, other), told)

    def test_for_each_t(self):
        chance, seen = Random(243), {True: 0, False: 0}
        machines = list(SMALL) + [tuple(chance.randint(2, 12) for _ in range(chance.randint(1, 6))) for _ in range(12)]
        for one in machines:
            for other in machines:
                told = all(least_span(one, t) >= least_span(other, t) for t in range(8))
                self.assert_same(self.outdoes(one, other), told)
                seen[told] += 1
        self.assertGreater(min(seen.values()), 200, seen)

    def test_ten_lanes(self):
        for one in GREAT:
            for other in GREAT:
                told = all(least_span(one, t) >= least_span(other, t) for t in range(6))
                self.assert_same(self.outdoes(one, other), told)

    def test_what_holds(self):
        chance = Random(244)
        machines = list(SMALL) + [PRIMES]
        for one in machines:
            self.assertTrue(outdoes(one, one))
            self.assertTrue(outdoes(one + (chance.randint(2, 30),), one))
            place = chance.randrange(len(one))
            self.assertTrue(outdoes(one[:place] + (one[place] * chance.randint(1, 5),) + one[place + 1:], one))
            for other in machines:
                if outdoes(one, other):
                    for third in machines:
                        self.assertTrue(outdoes(one, third) or not outdoes(other, third))
                    for t in range(len(other) + 1):
                        for many in (2, 5, 7, 30):
                            if bears(other, many, (t, t, 0)):
                                self.assertTrue(len(one) >= t and bears(one, many, (t, t, 0)))


class LeastMoreTest(LaneTest):
    def check(self, machine, many, t):
        """Check least_more by going through all moduli."""
        found = [modulus for modulus in range(2, 201) if does(machine + (modulus,), many, t)] if len(machine) < 10 else []
        told = self.tell(least_more, machine=machine, many=many, t=t)
        self.assert_same(told, found[0] if found else None)
        return told

    def test_told_ones(self):
        for machine, many, t, told in (((7, 8, 9), 50, 1, 11), ((7, 8, 9), 57, 1, None), ((7, 8, 9), 1001, 0, 5),
                                       ((7,), 200, 0, 29), ((7,), 1400, 0, 200), ((7,), 1401, 0, None), ((7,), 1393, 0, 199),
                                       ((7, 11, 13), 7, 1, 2), ((2,), 1, 2, 2), ((7,) * 10, 1, 0, None),
                                       ((7,), 1, 1, 2), ((7,), 2, 1, None), ((7,), 2, 2, None), ((7, 7), 7, 1, 7),
                                       ((7, 7), 8, 1, None), ((200,), 201, 0, 3), ((2,), 2 * TOP + 1, 0, None),
                                       ((7,) * 9, 7, 4, 2), ((7,) * 9, 8, 4, None), ((7,) * 9, 1, 10, 2), ((7,), 7, 0, 2)):
            self.assert_same(self.check(machine, many, t), told)

    def test_against_going_through_all_moduli(self):
        chance, seen = Random(245), set()
        for machine in SMALL:
            for t in range(len(machine) + 2):
                least = least_span(machine + (199,), t)
                for many in sorted({1, 2, least, least + 1, chance.randint(1, least), chance.randint(1, 60)}):
                    seen.add(self.check(machine, many, t))
        self.assertGreater(len(seen), 20, seen)
        self.assertIn(None, seen)

    def test_ten_lanes_have_none(self):
        for machine in GREAT:
            if len(machine) == 10:
                for t in (0, 1, 5, 11):
                    for many in (1, 2, 2 * TOP + 1):
                        self.assert_same(self.tell(least_more, machine=machine, many=many, t=t), None)

    def test_nine_lanes(self):
        for machine in [machine[:9] for machine in GREAT if len(machine) == 10]:
            for t in (0, 1, 2, 4, 5, 10):
                least = least_span(machine + (197,), t)
                for many in sorted({1, 2, least // 50 + 1, least // 3 + 1, least, least + 1}):
                    told = self.tell(least_more, machine=machine, many=many, t=t)
                    for modulus in (2, 3, 4, 199, 200) if told is None else {2, max(2, told - 1), told}:
                        self.assertIs(does(machine + (modulus,), many, t), modulus == told)


if __name__ == "__main__":
    unittest.main()
