"""Mix-ups, and what decides whether there is a rule: D5, D6."""

import unittest
from itertools import product
from random import Random

from straylanes.guards import bears, reach
from straylanes.mixups import mix_up, mix_up_holds
from tests import plain
from tests.lanesamples import GREAT, SMALL, TOP, guard_by, lot_books
from tests.support import LaneTest, ODD_VALUES

THREE = (7, 11, 13)


class MixUpTest(LaneTest):
    def mix_up(self, machine, stretch, guard):
        """Return mix_up, and check that it is None just if it has to be, and else a mix-up."""
        told = self.tell(mix_up, machine=machine, stretch=stretch, guard=guard)
        borne = bears(machine, stretch[1] - stretch[0] + 1, guard)
        self.assertEqual(told is None, borne, (machine, stretch, guard))
        if told is not None:
            self.assertIs(type(told), tuple)
            self.assertTrue(plain.is_mix_up(machine, stretch, guard, *told), (machine, stretch, guard, told))
            self.assert_same(self.tell(mix_up_holds, machine=machine, stretch=stretch, guard=guard, value=told), True)
        return told

    def test_just_behind_what_is_borne(self):
        for machine in SMALL:
            for guard in product(range(len(machine) + 1), repeat=3):
                many = reach(machine, guard)
                for low in (0, -many, -3):
                    self.assertIsNone(self.mix_up(machine, (low, low + many - 1), guard))
                    self.assertIsNotNone(self.mix_up(machine, (low, low + many), guard))

    def test_books_of_lots(self):
        chance = Random(51)
        for machine in SMALL:
            for _ in range(40):
                guard, low = guard_by(chance, machine), chance.randint(-50, 50)
                many = reach(machine, guard)
                for high in {low, low + many // 2, low + many - 1, low + many, low + 3 * many}:
                    self.mix_up(machine, (low, high), guard)

    def test_one_number_is_always_borne(self):
        for machine in SMALL:
            lanes = len(machine)
            self.assertIsNone(self.mix_up(machine, (-4, -4), (lanes, lanes, lanes)))

    def test_a_lane_of_the_first_lot_and_of_the_third_one(self):
        for guard in ((((0,),), 0, ((0,),)), (((0, 1),), ((0, 2),), ((0,),)), (3, 3, 3), (((0,), (1,)), 1, ((0, 1),))):
            many = reach(THREE, guard)
            self.assertIsNotNone(self.mix_up(THREE, (5, 5 + many), guard))

    def test_ten_lanes_and_great_stretches(self):
        chance = Random(52)
        for machine in GREAT:
            for _ in range(10):
                guard, low = guard_by(chance, machine), chance.randint(-TOP, 0)
                many = reach(machine, guard)
                self.assertIsNone(self.mix_up(machine, (low, low + many - 1), guard))
                self.assertIsNotNone(self.mix_up(machine, (low, low + many), guard))
            self.assertIsNotNone(self.mix_up(machine, (-TOP, TOP), (0, 0, 0)))


class MixUpHoldsTest(LaneTest):
    def holds(self, value, machine=THREE, stretch=(0, 7), guard=(1, 1, 0)):
        return self.tell(mix_up_holds, machine=machine, stretch=stretch, guard=guard, value=value)

    def test_all_triples_of_small_machines(self):
        chance = Random(53)
        for machine, many in (((5,), 6), ((2, 3), 7), ((4, 2), 6), ((2, 2, 3), 5)):
            for _ in range(12):
                guard = guard_by(chance, machine)
                stretch = (-2, many - 2)
                around = range(-3, many)
                found = 0
                for one, other, word in product(around, around, plain.all_words(machine)):
                    told = plain.is_mix_up(machine, stretch, guard, one, other, word)
                    self.assertIs(mix_up_holds(machine, stretch, guard, (one, other, word)), told)
                    found += told
                # There is one exactly if the machine does not bear as many numbers.
                self.assertEqual(found == 0, bears(machine, many + 1, guard))
                self.assertEqual(found == 0, mix_up(machine, stretch, guard) is None)

    def test_all_books_of_two_lanes(self):
        machine, stretch = (2, 3), (0, 3)
        for right, seen, still in product(lot_books(machine), repeat=3):
            found = any(mix_up_holds(machine, stretch, (right, seen, still), value)
                        for value in product(range(4), range(4), plain.all_words(machine)))
            self.assertEqual(mix_up(machine, stretch, (right, seen, still)) is not None, found)

    def test_the_ends_of_the_stretch(self):
        for stretch, told in (((0, 7), True), ((0, 6), False), ((1, 7), False), ((-9, 99), True), ((3, 3), False)):
            self.assert_same(self.holds((0, 7, (0, 7, 0)), stretch=stretch), told)
            self.assert_same(self.holds((7, 0, (0, 7, 0)), stretch=stretch), told)

    def test_who_may_stray_from_which(self):
        # From 0 the lane 1 strays, from 7 the lane 2.
        value = (0, 7, (0, 7, 0))
        for guard, told in (((((1,), (2,)), 0, 0), True), ((((1,),), ((2,),), 0), True), ((((2,),), ((1,),), 0), False),
                            ((((1,),), 0, 0), False), ((0, 1, 0), False), ((1, 0, 0), True), ((1, 0, 3), True)):
            self.assert_same(self.holds(value, guard=guard), told)

    def test_who_may_be_silent(self):
        for word, still, told in (((0, None, None), 2, True), ((0, None, None), 1, False),
                                  ((0, None, None), ((1, 2),), True), ((0, None, None), ((0, 1), (0, 2)), False),
                                  ((None, None, None), 3, True), ((None, None, None), 2, False)):
            self.assert_same(self.holds((0, 7, word), guard=(0, 0, still)), told)

    def test_parts_changed(self):
        self.assert_same(self.holds((0, 7, (0, 7, 0))), True)
        for value in ([0, 7, (0, 7, 0)], (0, 7, [0, 7, 0]), (False, 7, (0, 7, 0)), (0, 7, (False, 7, 0)),
                      (0, 7, (0, 7, False)), (0, 7), (0, 7, (0, 7, 0), 0), (0, 7, (0, 7)), (0, 7, (0, 7, 0, 0)),
                      (0, 7, (7, 7, 0)), (0, 7, (0, 7, 13)), (0, 7, (0, -4, 0)), ("0", 7, (0, 7, 0)),
                      (0, None, (0, 7, 0)), (0, 7, None), (0, 7, "070"), (0, (7,), (0, 7, 0)), (0, 7, ()),
                      ((0, 7, (0, 7, 0)),), (0, 10 ** 399, (0, 7, 0)), (0, 7, (0, 10 ** 399, 0))):
            self.assert_same(self.holds(value), False)
        self.assert_same(self.holds((0, 1, (0, 0, 0)), (2, 2, 2), (0, 1), (0, 3, 0)), True)
        self.assert_same(self.holds((0, True, (0, 0, 0)), (2, 2, 2), (0, 1), (0, 3, 0)), False)

    def test_any_value(self):
        for value in ODD_VALUES:
            self.assert_same(self.holds(value), False)
            for triple in ((value, 7, (0, 7, 0)), (0, value, (0, 7, 0)), (0, 7, value), (0, 7, (0, value, 0))):
                told = plain_kinds(triple) and plain.is_mix_up(THREE, (0, 7), (1, 1, 0), *triple)
                self.assert_same(self.holds(triple), told)


def plain_kinds(value):
    """Tell whether value is made of what a mix-up is made of."""
    one, other, word = value
    return (type(one) is int and type(other) is int and type(word) is tuple and len(word) == 3
            and all(item is None or type(item) is int and 0 <= item < modulus for item, modulus in zip(word, THREE)))


if __name__ == "__main__":
    unittest.main()
