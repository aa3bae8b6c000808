"""One run of Euclid's rule: part F."""

import unittest
from itertools import combinations
from math import gcd, lcm, prod
from random import Random

from straylanes.euclid import euclid_rows, euclid_tell
from straylanes.guards import bears
from straylanes.machines import rests_of
from straylanes.spans import numbers_of
from straylanes.tellings import candidates, tell
from tests import plain
from tests.lanesamples import GREAT_PRIMES, PRIMES, SMALL, TOP, book_by, cases_by, stretch_by, word_by
from tests.support import LaneTest

# No two lanes have a common divisor.
COPRIME = ((5,), (3, 2), (7, 11), (4, 9), (7, 11, 13), (8, 9, 5), (2, 3, 5, 7), (25, 4, 27), (3, 31, 4, 5),
           (11, 13, 17, 19))
# 10 ** 6 is 2 ** 6 * 5 ** 6, 999999 is 3 ** 3 * 7 * 11 * 13 * 37.
GREAT_COPRIME = (GREAT_PRIMES, PRIMES, (10 ** 6, 999999, 999983, 999979, 999961), (101, 103, 107, 109, 113),
                 GREAT_PRIMES[3:5])


def whole(machine, word):
    return prod(machine[lane] for lane in plain.speaking(word))


class EuclidRowsTest(LaneTest):
    def rows(self, a, b):
        told = self.tell(euclid_rows, a=a, b=b)
        self.assertIs(type(told), tuple)
        self.assertEqual(told[:2], ((a, 0), (b, 1)))
        self.assertEqual([rest for rest, _ in told].index(0), len(told) - 1)
        for (rest, times), (last, last_times), (after, after_times) in zip(told, told[1:], told[2:]):
            goes = rest // last
            self.assert_same((after, after_times), (rest - goes * last, times - goes * last_times))
        return told

    def test_told_ones(self):
        for a, b, told in ((1, 0, ((1, 0), (0, 1))), (2, 1, ((2, 0), (1, 1), (0, -2))), (9, 0, ((9, 0), (0, 1))),
                           (4, 2, ((4, 0), (2, 1), (0, -2))), (5, 3, ((5, 0), (3, 1), (2, -1), (1, 2), (0, -5))),
                           (9, 6, ((9, 0), (6, 1), (3, -1), (0, 3)))):
            self.assert_same(self.rows(a, b), told)

    def test_all_small_ones(self):
        for a in range(1, 60):
            for b in range(a):
                self.rows(a, b)

    def test_great_ones(self):
        chance = Random(81)
        for a in (TOP, TOP - 1, 10 ** 300, 2 ** 64, prod(GREAT_PRIMES)):
            for b in [0, 1, 2, a // 2, a - 1] + [chance.randint(0, a - 1) for _ in range(20)]:
                self.rows(a, b)
        # One step each time: as long as it gets.
        one, other = 1, 1
        while one < 10 ** 130:
            one, other = one + other, one
        self.assertGreater(len(self.rows(one, other)), 600)

    def test_what_holds_of_two_pairs_one_behind_another(self):
        chance = Random(82)
        for _ in range(200):
            a = chance.randint(1, 10 ** chance.randint(1, 80))
            b = chance.randint(0, a - 1)
            told = self.rows(a, b)
            self.assertEqual(told[-2][0], gcd(a, b))
            for (r, t), (s, u) in zip(told, told[1:]):
                self.assertEqual((r - t * b) % a, 0)
                self.assertLess(s, r)
                self.assertLessEqual(t * u, 0)
                self.assertLessEqual(abs(t), abs(u))
                self.assertEqual(r * abs(u) + s * abs(t), a)


class EuclidTellTest(LaneTest):
    def told(self, machine, word, stretch):
        return self.tell(euclid_tell, machine=machine, word=word, stretch=stretch)

    def refused(self, machine, word, stretch=(0, 0)):
        self.refuse("Unfit()", euclid_tell, machine=machine, word=word, stretch=stretch)

    def test_unfit_just_where_it_is_told(self):
        self.refused((7,), (None,))
        self.refused((4, 6), (None, None), (3, 99))
        self.refused((4, 6), (1, 1))
        self.refused((4, 6), (1, 2))
        self.refused((5, 5), (2, 2))
        self.refused((35, 6, 14), (None, 1, 1))
        self.refused((10 ** 6, 7, 999998), (0, None, 0), (-TOP, TOP))
        self.assert_same(self.told((4, 6), (1, None), (0, 1)), (1, ()))
        self.assert_same(self.told((4, 6), (None, 2), (2, 2)), (2, ()))
        self.assert_same(self.told((35, 6, 14), (1, 1, None), (0, 4)), (1, ()))
        for machine in SMALL:
            for word in plain.all_words(machine)[::101]:
                lanes = plain.speaking(word)
                if lanes and all(gcd(machine[i], machine[j]) == 1 for i, j in combinations(lanes, 2)):
                    self.told(machine, word, (0, 5))
                else:
                    self.refused(machine, word, (0, 5))

    def test_stretches_of_one_number(self):
        for machine in COPRIME:
            for word in plain.all_words(machine)[1::37]:
                for number in (0, -1, 5, 1000, -TOP, TOP):
                    self.assert_same(self.told(machine, word, (number, number)),
                                     (number, plain.astray(machine, word, number)))

    def test_just_below_the_bound(self):
        # 2 * 11 * 11 * (N - 1) is below 1001 up to N 5, and 2 * (N - 1) below 1001 up to N 501.
        for stretch, told in (((0, 4), (3, (1,))), ((0, 5), None), ((-1, 3), (3, (1,))), ((-2, 3), None),
                              ((3, 7), (3, (1,))), ((3, 8), None), ((4, 8), None)):
            self.assert_same(self.told((7, 11, 13), (3, 9, 3), stretch), told)
        for stretch, told in (((0, 500), (3, ())), ((0, 501), None), ((-497, 3), (3, ())), ((-498, 3), None),
                              ((4, 504), None)):
            self.assert_same(self.told((7, 11, 13), (3, 3, 3), stretch), told)
        # 2 * 3 * 3 * 2 is 36, the product of 4 and 9: not below it.
        self.assert_same([self.told((4, 9), (1, 1), (1, high)) for high in (1, 18, 19)], [(1, ()), (1, ()), None])
        self.assert_same([self.told((3, 12 + 1), (1, 2), (2, high)) for high in (2, 3, 4, 5)],
                         [(2, (0,)), (2, (0,)), (2, (0,)), None])

    def test_against_going_through_all_numbers(self):
        outcomes = {"none": 0, "all": 0, "strays": 0}
        for machine, word, stretch, _ in cases_by(83, 150, COPRIME, 40):
            if plain.speaking(word):
                told = plain.euclid_told(machine, word, stretch)
                self.assertLessEqual(len(told), 1)
                self.assert_same(self.told(machine, word, stretch), told[0] if told else None)
                outcomes["none" if not told else "strays" if told[0][1] else "all"] += 1
        self.assertGreater(min(outcomes.values()), 40, outcomes)

    def test_all_words_in_short_stretches(self):
        for machine in ((5,), (3, 2), (4, 9), (8, 9, 5)):
            for word in plain.all_words(machine):
                if plain.speaking(word):
                    for high in range(-1, 7):
                        told = plain.euclid_told(machine, word, (-1, high))
                        self.assert_same(euclid_tell(machine, word, (-1, high)), told[0] if told else None)

    def test_great_moduli_and_ten_lanes(self):
        chance, seen = Random(84), 0
        for machine in GREAT_COPRIME:
            for _ in range(80):
                number = chance.randint(-TOP, TOP)
                word = list(rests_of(machine, number))
                for lane in chance.sample(range(len(machine)), chance.randint(0, min(5, len(machine)))):
                    word[lane] = chance.choice((None, chance.randint(0, machine[lane] - 1)))
                word = tuple(word)
                if not plain.speaking(word):
                    continue
                lanes = plain.astray(machine, word, number)
                e = prod(machine[lane] for lane in lanes)
                many = (whole(machine, word) - 1) // (2 * e * e) + 1
                low = number - chance.randint(0, many - 1)
                self.assert_same(self.told(machine, word, (low, low + many - 1)), (number, lanes))
                beyond = self.told(machine, word, (low, low + many))
                self.assertNotEqual(beyond, (number, lanes))
                self.check_by_lots(machine, word, (low, low + many), beyond)
                seen += len(lanes) > 0
        self.assertGreater(seen, 100)

    def check_by_lots(self, machine, word, stretch, told):
        """Check by all lots of lanes that may stray: the others speak for one number at most."""
        found = []
        for lot in plain.all_lots(machine):
            if not set(lot) <= set(plain.speaking(word)):
                continue
            e = prod(machine[lane] for lane in lot)
            if 2 * e * e * (stretch[1] - stretch[0]) < whole(machine, word):
                row = numbers_of(machine, tuple(None if lane in lot else item for lane, item in enumerate(word)), stretch)
                if row is not None and plain.astray(machine, word, row[0]) == lot:
                    found.append((row[0], lot))
        self.assertEqual(found, [] if told is None else [told])

    def test_great_stretches(self):
        for machine in GREAT_COPRIME:
            word = rests_of(machine, 5)
            half = (prod(machine) - 1) // 2
            self.assert_same(self.told(machine, word, (5, 5 + half)), (5, ()))
            self.assert_same(self.told(machine, word, (5 - half, 5)), (5, ()))
            self.assert_same(self.told(machine, word, (5, 6 + half)), None)
        self.assert_same(self.told(GREAT_PRIMES, rests_of(GREAT_PRIMES, 5), (-TOP, TOP)), None)
        self.assert_same(self.told(PRIMES, rests_of(PRIMES, 5), (-TOP, TOP)), None)

    def test_random_words_mostly_tell_nothing(self):
        chance = Random(85)
        for machine in GREAT_COPRIME:
            for _ in range(40):
                word = tuple(chance.randint(0, modulus - 1) for modulus in machine)
                low, high = stretch_by(chance, 10 ** 12)
                self.check_by_lots(machine, word, (low, high), self.told(machine, word, (low, high)))


class HoldsTest(LaneTest):
    def test_it_tells_what_tell_tells_where_the_product_is_not_too_great(self):
        alike = 0
        for machine, word, stretch, book in cases_by(86, 150, COPRIME, 40):
            found = plain.candidates(machine, word, stretch, book)
            if not plain.speaking(word):
                continue
            told = euclid_tell(machine, word, stretch)
            if len(found) == 1:
                e = lcm(*[machine[lane] for lane in plain.astray(machine, word, found[0])])
                if 2 * e * e * (stretch[1] - stretch[0]) < whole(machine, word):
                    self.assertEqual(told[0], tell(machine, word, stretch, book))
                    alike += 1
            if told is not None and plain.lets(book, told[1]):
                self.assertIn(told[0], found)
                self.assertIn(told[0], candidates(machine, word, stretch, (told[1],)))
        self.assertGreater(alike, 100)

    def test_books_of_small_products_are_borne(self):
        chance = Random(87)
        for machine in COPRIME:
            for _ in range(20):
                book, many = book_by(chance, machine), chance.randint(1, 60)
                products = [prod(machine[lane] for lane in lot) for lot in plain.lots_let(machine, book)]
                if all(2 * e * e * (many - 1) < prod(machine) for e in products):
                    self.assertTrue(bears(machine, many, (book, book, 0)))

    def test_more_lanes_that_agree_and_shorter_stretches_tell_the_same(self):
        chance = Random(88)
        for machine in GREAT_COPRIME:
            for _ in range(20):
                number = chance.randint(-TOP, TOP)
                word = word_by(chance, machine, number)
                stretch = (number - chance.randint(0, 50), number + chance.randint(0, 50))
                told = euclid_tell(machine, word, stretch) if plain.speaking(word) else None
                if told is not None:
                    fuller = tuple(told[0] % machine[lane] if item is None else item for lane, item in enumerate(word))
                    self.assert_same(self.tell(euclid_tell, machine=machine, word=fuller, stretch=stretch), told)
                    shorter = ((stretch[0] + told[0]) // 2, (stretch[1] + told[0]) // 2)
                    self.assert_same(self.tell(euclid_tell, machine=machine, word=word, stretch=shorter), told)


if __name__ == "__main__":
    unittest.main()
