"""Many calls one behind another: ten lanes, three books, great stretches.

The bounds are far above what the calls need; going through all choices, or all numbers, would need far more.
"""

import time
import unittest
from random import Random

from straylanes.errors import LaneError
from straylanes.euclid import euclid_tell
from straylanes.guards import bears, reach, strength, weakest
from straylanes.machines import rests_of
from straylanes.mixups import mix_up
from straylanes.tellings import candidates, nearest, suspects, tell
from straylanes.works import work_told
from tests.lanesamples import FIVES, GREAT, GREAT_PRIMES, MOST, TOP, book_by, guard_by, word_by

TEN = [machine for machine in GREAT if len(machine) == 10]


class QuicknessTest(unittest.TestCase):
    def setUp(self):
        self.began = time.process_time()

    def within(self, seconds):
        self.assertLess(time.process_time() - self.began, seconds)

    def test_guards_of_ten_lanes(self):
        chance = Random(101)
        guards = [(3, 3, 3), (5, 5, 5), (2, 4, 1), (FIVES, FIVES, FIVES), (MOST, FIVES, MOST), (1, FIVES, 2)]
        for machine in TEN:
            for guard in guards * 4 + [guard_by(chance, machine) for _ in range(10)]:
                many = reach(machine, guard)
                self.assertTrue(bears(machine, many, guard))
                weakest(machine, guard)
                self.assertIsNotNone(mix_up(machine, (0, many), guard))
                strength(machine, many)
        self.within(20)

    def test_tellings_of_ten_lanes(self):
        chance, told = Random(102), 0
        for machine in TEN:
            for turn in range(60):
                high = (0, 1000, 10 ** 10, 10 ** 30, TOP)[turn % 5]
                word = word_by(chance, machine, chance.randint(0, high))
                book = (5, 2, FIVES, MOST, book_by(chance, machine, 12), book_by(chance, machine, 3))[turn % 6]
                for function in (candidates, tell, suspects):
                    told += self.tells(function, machine, word, (0, high), book)
                nearest(machine, word, (0, high))
                self.tells(euclid_tell, machine, word, (0, high))
        self.assertGreater(told, 100)
        self.within(30)

    def tells(self, function, *arguments):
        """Tell whether a call returns."""
        try:
            function(*arguments)
        except LaneError:
            return False
        return True

    def test_euclid_of_ten_lanes(self):
        for turn in range(300):
            word = list(rests_of(GREAT_PRIMES, turn))
            word[turn % 10] = word[turn * 7 % 10] = 0
            euclid_tell(GREAT_PRIMES, tuple(word), (0, 10 ** 20))
        self.within(10)

    def test_works_of_eight_stages(self):
        stage = ((("in", 0, 10 ** 20), ("is", 1), ("sum", 0, 1)), (("value", 10 ** 19),), (0, 10 ** 20))
        strays = tuple(((lane, 2, 5), (lane + 1, 1, 7)) for lane in range(8))
        for _ in range(10):
            self.assertEqual(work_told(GREAT_PRIMES, (stage,) * 8, strays, 2), (10 ** 19 + 1,) * 8)
        self.within(10)


if __name__ == "__main__":
    unittest.main()
