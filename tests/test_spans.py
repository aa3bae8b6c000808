"""Spans, clashes, and the numbers with which lanes agree: part C."""

import unittest
from itertools import combinations
from math import gcd, lcm
from random import Random

from straylanes.machines import rests_of
from straylanes.spans import clashes, numbers_of, same_lanes, span_of
from tests import plain
from tests.lanesamples import GREAT, GREAT_PRIMES, PRIMES, SMALL, TOP, cases_by, stretch_by, word_by
from tests.support import LaneTest


class SpanTest(LaneTest):
    def test_told_spans(self):
        for machine, lanes, told in (((7, 11, 13), (), 1), ((7, 11, 13), (1,), 11), ((7, 11, 13), (0, 1, 2), 1001),
                                     ((6, 6), (0, 1), 6), ((4, 6, 10), (0, 1, 2), 60), ((2, 4, 8), (0, 2), 8),
                                     ((10 ** 6,) * 10, tuple(range(10)), 10 ** 6)):
            self.assert_same(self.tell(span_of, machine=machine, lanes=lanes), told)

    def test_great_ones_are_exact(self):
        told = 1
        for modulus in GREAT_PRIMES:
            told *= modulus
        self.assert_same(self.tell(span_of, machine=GREAT_PRIMES, lanes=tuple(range(10))), told)
        self.assertGreater(told, 10 ** 59)

    def test_of_all_lanes(self):
        for machine in SMALL + GREAT:
            for lanes in plain.all_lots(machine)[::7]:
                self.assert_same(span_of(machine, lanes), lcm(*[machine[lane] for lane in lanes]))

    def test_two_lots_together(self):
        for machine in SMALL:
            for one, other in combinations(plain.all_lots(machine), 2):
                both = tuple(sorted({*one, *other}))
                self.assertEqual(span_of(machine, both), lcm(span_of(machine, one), span_of(machine, other)))


class SameLanesTest(LaneTest):
    def test_told_lanes(self):
        for machine, one, other, told in (((7, 11), 0, 0, (0, 1)), ((7, 11), 0, 1, ()), ((7, 11), 3, 80, (0, 1)),
                                          ((7, 11), -5, 2, (0,)), ((4, 6, 9), 36, 0, (0, 1, 2)),
                                          ((4, 6, 9), 9, -9, (1, 2)), ((2, 10 ** 6), TOP, -TOP, (0, 1)),
                                          ((3, 17), TOP, 1, (0,))):
            self.assert_same(self.tell(same_lanes, machine=machine, one=one, other=other), told)

    def test_those_of_which_the_rests_are_the_same(self):
        for machine in SMALL:
            for one in range(-20, 20, 3):
                for other in range(-20, 20):
                    told = tuple(lane for lane, modulus in enumerate(machine) if one % modulus == other % modulus)
                    self.assert_same(same_lanes(machine, one, other), told)

    def test_lanes_are_among_them_exactly_if_their_span_divides_the_difference(self):
        for machine in SMALL:
            for lanes in plain.all_lots(machine):
                for other in range(-50, 50):
                    self.assertEqual(set(lanes) <= set(same_lanes(machine, 7, other)),
                                     (7 - other) % span_of(machine, lanes) == 0)


class ClashesTest(LaneTest):
    def test_told_pairs(self):
        for machine, word, told in (((6, 6), (1, 1), ()), ((6, 6), (1, 4), ((0, 1),)), ((6, 6), (None, 4), ()),
                                    ((6, 4), (1, 3), ()), ((6, 4), (1, 2), ((0, 1),)), ((7, 11), (6, 10), ()),
                                    ((2, 2, 2), (0, 1, 0), ((0, 1), (1, 2))), ((2, 2, 2), (0, None, 1), ((0, 2),)),
                                    ((2, 4, 2), (1, 0, 0), ((0, 1), (0, 2))), ((5,), (3,), ()), ((5,), (None,), ()),
                                    ((10 ** 6, 999998), (1, 999997), ()), ((10 ** 6, 999998), (1, 0), ((0, 1),))):
            self.assert_same(self.tell(clashes, machine=machine, word=word), told)

    def test_two_clash_exactly_if_no_number_agrees_with_both(self):
        for machine in SMALL:
            for word in plain.all_words(machine)[::max(1, len(plain.all_words(machine)) // 300)]:
                told = []
                for i, j in combinations(plain.speaking(word), 2):
                    if not any(number % machine[i] == word[i] and number % machine[j] == word[j]
                               for number in range(machine[i] * machine[j])):
                        told.append((i, j))
                self.assert_same(clashes(machine, word), tuple(told))

    def test_ten_lanes_and_great_moduli(self):
        chance = Random(21)
        for machine in GREAT:
            for _ in range(20):
                word = word_by(chance, machine, chance.randint(-TOP, TOP))
                told = tuple((i, j) for i, j in combinations(plain.speaking(word), 2)
                             if word[i] % gcd(machine[i], machine[j]) != word[j] % gcd(machine[i], machine[j]))
                self.assert_same(self.tell(clashes, machine=machine, word=word), told)

    def test_all_of_ten_lanes(self):
        self.assert_same(clashes((11,) * 10, tuple(range(10))), tuple(combinations(range(10), 2)))
        self.assert_same(clashes(PRIMES, (1,) * 10), ())


class NumbersOfTest(LaneTest):
    def numbers(self, machine, word, stretch):
        return self.tell(numbers_of, machine=machine, word=word, stretch=stretch)

    def test_the_ends_of_the_stretch(self):
        for stretch, told in (((9, 9), (9, 36, 1)), ((9, 44), (9, 36, 1)), ((9, 45), (9, 36, 2)), ((10, 44), None),
                              ((10, 45), (45, 36, 1)), ((-27, 9), (-27, 36, 2)), ((-26, 8), None), ((-26, 9), (9, 36, 1)),
                              ((-99, -27), (-99, 36, 3)), ((-98, -28), (-63, 36, 1)), ((10, 10), None)):
            self.assert_same(self.numbers((4, 6, 9), (1, 3, 0), stretch), told)

    def test_silent_lanes(self):
        self.assert_same(self.numbers((4, 6), (None, None), (-7, -7)), (-7, 1, 1))
        self.assert_same(self.numbers((4, 6), (None, None), (-TOP, TOP)), (-TOP, 1, 2 * TOP + 1))
        self.assert_same(self.numbers((4, 6), (None, 5), (-7, -1)), (-7, 6, 2))
        self.assert_same(self.numbers((4, 6), (1, None), (0, 0)), None)

    def test_the_first_pair_that_clashes(self):
        self.refuse("Clash((0, 2))", numbers_of, machine=(7, 4, 14), word=(1, 2, 2), stretch=(0, 5))
        self.refuse("Clash((1, 2))", numbers_of, machine=(7, 4, 6), word=(1, 2, 3), stretch=(0, 5))
        self.refuse("Clash((0, 1))", numbers_of, machine=(2, 2, 2), word=(0, 1, 0), stretch=(3, 3))
        self.refuse("Clash((1, 9))", numbers_of, machine=(5, 6, 7, 11, 13, 17, 19, 23, 29, 10 ** 6),
                    word=(0, 1, 0, 0, 0, 0, 0, 0, 0, 0), stretch=(-TOP, TOP))

    def test_clash_also_where_no_number_of_the_stretch_would_do(self):
        self.refuse("Clash((1, 2))", numbers_of, machine=(7, 2, 2), word=(1, 0, 1), stretch=(0, 0))

    def test_against_going_through_all_numbers(self):
        outcomes = {None: 0, "clash": 0, "some": 0}
        for machine, word, stretch, _ in cases_by(22, 60):
            pairs = clashes(machine, word)
            if pairs:
                self.refuse(f"Clash({pairs[0]})", numbers_of, machine=machine, word=word, stretch=stretch)
                outcomes["clash"] += 1
                continue
            agreed = plain.agreed_numbers(machine, word, stretch)
            told = (agreed[0], span_of(machine, plain.speaking(word)), len(agreed)) if agreed else None
            self.assert_same(self.numbers(machine, word, stretch), told)
            if told is not None:
                self.assertEqual([told[0] + told[1] * turn for turn in range(told[2])], agreed)
            outcomes["some" if agreed else None] += 1
        self.assertGreater(min(outcomes.values()), 50, outcomes)

    def test_great_numbers_and_moduli(self):
        chance = Random(23)
        for machine in GREAT:
            for _ in range(20):
                number = chance.randint(-TOP, TOP)
                word = tuple(rest if chance.randint(0, 3) else None for rest in rests_of(machine, number))
                span = span_of(machine, tuple(plain.speaking(word)))
                below = chance.randint(0, TOP)
                for low, high in ((number, number), (number - below, number + below), (number - span + 1, number),
                                  (number, number + span - 1), (number - span, number + span)):
                    first = low + (number - low) % span
                    told = (first, span, (high - first) // span + 1)
                    self.assert_same(self.numbers(machine, word, (low, high)), told)
                self.assert_same(numbers_of(machine, word, (number + 1, number + span - 1)) if span > 1 else None, None)

    def test_just_one_of_as_many_numbers_as_the_span_agrees(self):
        chance = Random(24)
        for machine in SMALL:
            for word in plain.all_words(machine)[::97]:
                if not clashes(machine, word):
                    low, _ = stretch_by(chance, 100)
                    span = span_of(machine, plain.speaking(word))
                    self.assertEqual(numbers_of(machine, word, (low, low + span - 1))[1:], (span, 1))


if __name__ == "__main__":
    unittest.main()
