"""Many calls one behind another: ten lanes, three books, great stretches.

The bounds are far above what the calls need; going through all choices, or all numbers, would need far more.
"""

import time
import unittest
from random import Random

from straylanes.benches import Bench
from straylanes.errors import LaneError
from straylanes.euclid import euclid_tell
from straylanes.guards import bears, reach, strength, weakest
from straylanes.ledgers import fitting_lots, sure_numbers, sure_sound, sure_strayers
from straylanes.logs import bench_behind, log_text, read_log
from straylanes.machines import rests_of
from straylanes.mixups import mix_up
from straylanes.paces import fewest, stops, stops_hold
from straylanes.results import mixed_runs, results, told_for_all
from straylanes.stocks import cheapest, least_more, outdoes
from straylanes.tellings import candidates, nearest, suspects, tell
from straylanes.units import faces, told_from, unit_runs
from straylanes.works import work_told
from tests.lanesamples import FIVES, GREAT, GREAT_PRIMES, MOST, TOP, book_by, guard_by, word_by

TEN = [machine for machine in GREAT if len(machine) == 10]


class QuicknessTest(unittest.TestCase):
    def setUp(self):
        self.began = time.process_time()

    def within(self, seconds):
        self.assertLess(time.process_time() - self.began, seconds)

    def test_guards_of_ten_lanes(self):
        chance = Random(101)
        guards = [(3, 3, 3), (5, 5, 5), (2, 4, 1), (FIVES, FIVES, FIVES), (MOST, FIVES, MOST), (1, FIVES, 2)]
        for machine in TEN:
            for guard in guards * 4 + [guard_by(chance, machine) for _ in range(10)]:
                many = reach(machine, guard)
                self.assertTrue(bears(machine, many, guard))
                weakest(machine, guard)
                self.assertIsNotNone(mix_up(machine, (0, many), guard))
                strength(machine, many)
        self.within(20)

    def test_tellings_of_ten_lanes(self):
        chance, told = Random(102), 0
        for machine in TEN:
            for turn in range(60):
                high = (0, 1000, 10 ** 10, 10 ** 30, TOP)[turn % 5]
                word = word_by(chance, machine, chance.randint(0, high))
                book = (5, 2, FIVES, MOST, book_by(chance, machine, 12), book_by(chance, machine, 3))[turn % 6]
                for function in (candidates, tell, suspects):
                    told += self.tells(function, machine, word, (0, high), book)
                nearest(machine, word, (0, high))
                self.tells(euclid_tell, machine, word, (0, high))
        self.assertGreater(told, 100)
        self.within(30)

    def tells(self, function, *arguments):
        """Tell whether a call returns."""
        try:
            function(*arguments)
        except LaneError:
            return False
        return True

    def test_euclid_of_ten_lanes(self):
        for turn in range(300):
            word = list(rests_of(GREAT_PRIMES, turn))
            word[turn % 10] = word[turn * 7 % 10] = 0
            euclid_tell(GREAT_PRIMES, tuple(word), (0, 10 ** 20))
        self.within(10)

    def test_works_of_eight_stages(self):
        stage = ((("in", 0, 10 ** 20), ("is", 1), ("sum", 0, 1)), (("value", 10 ** 19),), (0, 10 ** 20))
        strays = tuple(((lane, 2, 5), (lane + 1, 1, 7)) for lane in range(8))
        for _ in range(10):
            self.assertEqual(work_told(GREAT_PRIMES, (stage,) * 8, strays, 2), (10 ** 19 + 1,) * 8)
        self.within(10)

    def test_chains_of_forty_items(self):
        for machine in TEN:
            for turn in range(20):
                chain = tuple(1 + (turn * place) % 30 for place in range(39)) + (1,)
                row = stops(machine, chain, 1 + turn)
                self.assertEqual(fewest(machine, chain, 1 + turn), len(row))
                self.assertTrue(stops_hold(machine, chain, 1 + turn, row))
        self.within(10)

    def test_programs_of_2000_inputs(self):
        many = (("in", 0, 1999),) + tuple(("sum", place, 0) for place in range(29))
        wide = (("in", 0, 1999), ("is", 10 ** 50 + 1), ("times", 0, 1), ("times", 2, 2))
        for program in (many, wide, tuple(("in", 0, 1) for _ in range(10)) + (("times", 0, 9),)):
            for machine in TEN:
                for book in (0, 1, 2, 3, FIVES, MOST, ((0, 1), (2, 3, 4))):
                    self.assertIs(told_for_all(machine, program, book), mixed_runs(machine, program, book) is None)
            self.assertLessEqual(len(results(program)), 2000)
        self.within(20)

    def test_units_of_ten_lanes(self):
        steps = (("in", 0, 3), ("in", 0, 24), ("is", 0), ("times", 1, 2), ("is", 4), ("is", 7), ("is", 9), ("sum", 5, 6))
        steps += tuple(("sum", place, 5 + place % 3) for place in range(7, 26))
        program = steps + (("times", 26, 4), ("sum", 27, 0), ("sum", 28, 3))
        machine = (52, 48, 44, 40, 36, 32, 28, 24, 20, 16)
        for book in (1, 2, 5, FIVES, MOST):
            # Whatever the steps 5 and 6 put out, a multiple of 4 comes to the input.
            self.assertTrue(told_from(machine, program, book, (5, 6)))
            self.assertIsNone(unit_runs(machine, program, book, (5, 6)))
        for lane in range(10):
            self.assertEqual(len(faces(machine, program, (1, 0), lane, (5, 6))), machine[lane] // 4)
        self.within(20)

    def test_ledgers_of_eight_runs(self):
        chance = Random(103)
        for machine in TEN:
            for high in (1000, 10 ** 30, TOP):
                runs = tuple((word_by(chance, machine, chance.randint(0, high)), (0, high)) for _ in range(8))
                for book in (5, 2, FIVES, MOST, 8):
                    for function in (fitting_lots, sure_numbers, sure_strayers, sure_sound):
                        self.tells(function, machine, runs, book)
        self.within(20)

    def test_stocks_of_eight_places(self):
        for machine in TEN:
            stock = tuple((modulus, 100 + place) for place, modulus in enumerate(machine[:8]))
            for t in range(9):
                for many in (1, 1000, 10 ** 15, 10 ** 30):
                    cheapest(stock, many, t)
                    least_more(machine[:9], many, t)
            for other in TEN:
                outdoes(machine, other)
        self.within(20)

    def test_benches_of_forty_edits(self):
        steps = (("in", -TOP, TOP),) * 29
        for _ in range(20):
            bench = Bench()
            bench.keep("ten", GREAT_PRIMES)
            for version in range(2, 41):
                self.assertEqual(bench.batch((("keep", "a", steps), ("step_put", "a", ("is", TOP)), ("drop", "a")) * 4), version)
            behind = bench_behind(read_log(log_text(bench.log)))
            self.assertEqual((behind, behind.log), (bench, bench.log))
            for _ in range(40):
                bench.undo()
            for _ in range(40):
                bench.redo()
        self.within(30)

    def test_asks_of_ten_lanes(self):
        bench = Bench()
        for place, machine in enumerate(TEN):
            bench.keep("abcdef"[place], machine)
        bench.keep("wide", (("in", 0, 1999), ("is", 10 ** 40 + 1), ("times", 0, 1)))
        for _ in range(30):
            for name in "abcdef"[:len(TEN)]:
                for book in (2, 3, FIVES, MOST):
                    bench.reach_of(name, (book, FIVES, book))
                    bench.told(name, "wide", book)
        self.assertEqual(bench.made, 8 * len(TEN))
        self.within(20)


if __name__ == "__main__":
    unittest.main()
