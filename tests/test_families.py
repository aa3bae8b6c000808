"""Families of lots as integers, which the guards and the results share."""

import unittest
from random import Random

from straylanes.families import NO_LANES, greatest_masks, lanes_of, mask_of, masks_in, widened
from tests import plain, plainruns
from tests.lanesamples import SMALL, book_by


class FamiliesTest(unittest.TestCase):
    def test_lots_that_a_book_lets(self):
        chance = Random(281)
        for machine in SMALL * 5:
            book = book_by(chance, machine)
            family = widened(len(machine), NO_LANES, book)
            self.assertEqual(sorted(map(lanes_of, masks_in(family))), sorted(plain.lots_let(machine, book)))
            greatest = sorted(map(lanes_of, greatest_masks(len(machine), family)))
            self.assertEqual(greatest, plainruns.greatest_lots(machine, book))
            other = book_by(chance, machine)
            both = widened(len(machine), family, other)
            told = {tuple(sorted({*one, *two})) for one in plain.lots_let(machine, book)
                    for two in plain.lots_let(machine, other)}
            self.assertEqual(set(map(lanes_of, masks_in(both))), told)
            greatest = {lot for lot in told if not any(set(lot) < set(more) for more in told)}
            self.assertEqual(set(map(lanes_of, greatest_masks(len(machine), both))), greatest)

    def test_masks(self):
        for lanes, mask in (((), 0), ((0,), 1), ((1, 3), 10), (tuple(range(10)), 1023)):
            self.assertEqual((mask_of(lanes), lanes_of(mask)), (mask, lanes))


if __name__ == "__main__":
    unittest.main()
