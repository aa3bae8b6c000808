"""Stops in chains: G5, and what G6 says of them."""

import unittest
from random import Random

from straylanes.errors import NoPlan
from straylanes.guards import strength
from straylanes.paces import fewest, stops, stops_hold
from tests import plainruns
from tests.lanesamples import GREAT, PRIMES, SMALL, TOP
from tests.support import LaneTest, ODD_VALUES

THREE = (7, 11, 13)
CHAIN = (5, 50, 7, 3, 2000, 6, 1)


def chains_by(seed, turns, longest):
    """Yield machine, chain and w; the items lie around what the machine bears."""
    chance = Random(seed)
    for machine in SMALL:
        whole = plainruns.plain.span_outside(machine)
        least = [plainruns.plain.reach(machine, (t, t, 0)) for t in range(len(machine) + 1)]
        for _ in range(turns):
            items = [1, 2, *least, *[many + 1 for many in least], chance.randint(1, whole), chance.randint(1, 2 * whole)]
            chain = tuple(chance.choice(items) for _ in range(chance.randint(1, longest)))
            yield machine, chain, chance.choice((1, 2, 3, 4, 5, 7, 20, 10 ** 30))


class PacesTest(LaneTest):
    def holds(self, machine, chain, w, value):
        return self.tell(stops_hold, machine=machine, chain=chain, w=w, value=value)

    def check(self, machine, chain, w, least):
        """Check stops and fewest, least being how many stops there are in a right row, None if there is none."""
        named = {"machine": machine, "chain": chain, "w": w}
        if least is None:
            self.refuse("NoPlan()", stops, **named)
            self.refuse("NoPlan()", fewest, **named)
            return
        row = self.tell(stops, **named)
        self.assertIsInstance(row, tuple)
        self.assertTrue(all(isinstance(place, int) for place in row))
        self.assertTrue(plainruns.is_right_row(machine, chain, w, row), (machine, chain, w, row))
        self.assertEqual(len(row), least)
        self.assert_same(self.tell(fewest, **named), least)
        self.assert_same(self.holds(machine, chain, w, row), True)


class SmallTest(PacesTest):
    def test_against_going_through_all_rows(self):
        plans = {True: 0, False: 0}
        for machine, chain, w in chains_by(201, 14, 7):
            rows = [row for row in plainruns.all_rows(len(chain)) if plainruns.is_right_row(machine, chain, w, row)]
            self.check(machine, chain, w, min(map(len, rows), default=None))
            plans[bool(rows)] += 1
            for row in plainruns.all_rows(len(chain)):
                self.assert_same(stops_hold(machine, chain, w, row), row in rows)
        self.assertGreater(min(plans.values()), 40, plans)

    def test_told_ones(self):
        for machine, chain, w, least in ((THREE, CHAIN, 2, 2), (THREE, (7,) * 9, 3, 3), (THREE, (1, 1), 1, 1),
                                         (THREE, (5, 50), 9, None), (THREE, (1,), 1, 1), (THREE, (8,), 1, None),
                                         (THREE, (7,), 1, 1), (THREE, (1001, 7), 1, None), (THREE, (1001, 7), 2, 1),
                                         (THREE, (1,) * 3, 1, 1), (THREE, (1,) * 4, 1, 2), (THREE, (7,) * 4, 1, 4),
                                         ((5,), (1, 1), 1, 2), ((5,), (2,), 10 ** 30, None), ((5,), (1,) * 40, 40, 1),
                                         ((5,), (1,) * 40, 39, 2)):
            self.check(machine, chain, w, least)

    def test_at_most_one_lane_in_w_steps(self):
        # Up to w steps one lane, up to 2 * w two; THREE bears three for one number, one for 2 to 7.
        for w in (1, 2, 3, 5, 8):
            for steps in range(1, 4 * w):
                self.assert_same(self.holds(THREE, (1,) * steps, w, (steps - 1,)), steps <= 3 * w)
                self.assert_same(self.holds(THREE, (7,) * steps, w, (steps - 1,)), steps <= w)
                self.assert_same(self.holds(THREE, (8,) * steps, w, (steps - 1,)), False)

    def test_more_lanes_than_there_are(self):
        self.assert_same(self.holds((5,), (1,) * 3, 1, (2,)), False)
        self.assert_same(self.holds((5,), (1,) * 3, 1, (0, 1, 2)), True)
        self.check((5,), (1,) * 40, 1, 40)


class LongTest(PacesTest):
    def test_forty_items(self):
        chance = Random(202)
        for machine in GREAT + ((5, 5, 5, 5, 5), THREE):
            strong = [many for many in (1, 2, 3, 10, 100, 10 ** 6, 10 ** 15) if strength(machine, many) > 0]
            for w in (1, 2, 3, 10, 40, 10 ** 30):
                chain = tuple(chance.choice(strong + [10 ** 70]) for _ in range(39)) + (1,)
                named = {"machine": machine, "chain": chain, "w": w}
                least = least_by_rounds(machine, chain, w)
                if least is None:
                    self.refuse("NoPlan()", stops, **named)
                    continue
                self.assert_same(self.tell(fewest, **named), least)
                row = self.tell(stops, **named)
                self.assertEqual(len(row), least)
                self.assertTrue(self.holds(machine, chain, w, row))

    def test_forty_stops(self):
        for w in (1, 2, 10 ** 30):
            self.assert_same(self.holds(THREE, (7,) * 40, w, tuple(range(40))), True)
        self.assert_same(self.holds(THREE, (7,) * 40, 1, tuple(range(1, 40))), False)
        self.assert_same(self.holds(THREE, (7,) * 40, 1, tuple(range(39))), False)
        self.assert_same(self.tell(fewest, machine=THREE, chain=(7,) * 40, w=10 ** 30), 1)
        self.assert_same(self.tell(stops, machine=THREE, chain=(7,) * 40, w=1), tuple(range(40)))

    def test_a_greater_w_or_a_stop_more_never_harms(self):
        for machine, chain, w in chains_by(203, 10, 12):
            try:
                row = stops(machine, chain, w)
            except NoPlan:
                continue
            for greater in (w + 1, w + 3, 2 * w):
                self.assertLessEqual(fewest(machine, chain, greater), len(row))
                self.assertTrue(stops_hold(machine, chain, greater, row))
            for place in set(range(len(chain))) - set(row):
                ahead = max([-1] + [stop for stop in row if stop < place])
                right = strength(machine, chain[place]) * w >= place - ahead
                self.assertIs(stops_hold(machine, chain, w, tuple(sorted({*row, place}))), right)


def least_by_rounds(machine, chain, w):
    """Return how few stops do: which places can be the last one of so many stops, round by round."""
    strengths = [strength(machine, many) for many in chain]
    reached, rounds = {-1}, 0
    while len(chain) - 1 not in reached:
        found = {place for ahead in reached for place in range(ahead + 1, len(chain))
                 if strengths[place] * w >= place - ahead}
        if found <= reached:
            return None
        reached, rounds = reached | found, rounds + 1
    return rounds


class AnyValueTest(PacesTest):
    def test_values_that_are_no_rows(self):
        for value in (*ODD_VALUES, [0, 6], (False, 6), (0, 6, True), (0, "6"), (0, 6, 6), (6, 0), (0, 7), (-1, 6), (0, 6, 7),
                      (0, None, 6), (0, (6,)), ((0, 6),), (0.0, 6), (6,), (0,), (0, 2), (0, 1, 6), (0, 10 ** 399), (0, [], 6),
                      (0, 2, 2, 6), (2, 6), range(7), {0: 6}, (0, 6, None)):
            self.assert_same(self.holds(THREE, CHAIN, 2, value), False)

    def test_values_that_are(self):
        for value in ((0, 6), (0, 2, 6), (0, 2, 3, 6), (0, 2, 5, 6), (0, 2, 3, 5, 6), (0, 5, 6)):
            self.assert_same(self.holds(THREE, CHAIN, 2, value), plainruns.is_right_row(THREE, CHAIN, 2, value))
        self.assert_same(self.holds(THREE, CHAIN, 2, (0, 2, 6)), True)

    def test_a_chain_of_one(self):
        for value in ODD_VALUES:
            self.assert_same(self.holds(THREE, (7,), 1, value), False)
        self.assert_same(self.holds(THREE, (7,), 1, (0,)), True)
        self.assert_same(self.holds(THREE, (8,), 1, (0,)), False)
        self.assert_same(self.holds(PRIMES, (2 * TOP + 1,), 1, (0,)), False)


if __name__ == "__main__":
    unittest.main()
