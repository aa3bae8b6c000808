"""Several runs with the same strayers: I1 to I4, and what I5 says of them."""

import unittest
from random import Random

from straylanes.books import lots_of
from straylanes.errors import NoLot, Strayed, Unsure
from straylanes.guards import bears
from straylanes.ledgers import fitting_lots, ledger_error, sure_numbers, sure_sound, sure_strayers
from straylanes.machines import rests_of, straying
from straylanes.spans import span_of
from straylanes.tellings import tell
from tests import plain, plainruns
from tests.lanesamples import FIVES, GREAT_PRIMES, MOST, PRIMES, SMALL, TOP, book_by, stretch_by, word_by
from tests.support import LaneTest, ODD_VALUES

THREE = (7, 11, 13)
FIRST, SECOND, THIRD = ((6, 4, 7), (0, 60)), ((3, 5, 6), (0, 60)), ((3, 0, 10), (0, 60))
PLAIN = ((6, 9, 7), (0, 60))
SURE = (sure_numbers, sure_strayers, sure_sound)


def ledgers_by(seed, turns, longest, most_runs):
    """Yield machine, ledger and book; in most of them the same lanes stray in all runs, and the book lets them."""
    chance = Random(seed)
    for machine in SMALL:
        for _ in range(turns):
            book = book_by(chance, machine)
            lot, runs = chance.choice(plain.lots_let(machine, book)), []
            for _ in range(chance.randint(1, most_runs)):
                stretch = stretch_by(chance, longest)
                number = chance.randint(*stretch)
                word = list(rests_of(machine, number))
                for lane, modulus in enumerate(machine):
                    if chance.randint(0, 7) == 0:
                        word[lane] = None
                    elif lane in lot and chance.randint(0, 2):
                        word[lane] = chance.randrange(modulus)
                runs.append((tuple(word) if chance.randint(0, 4) else word_by(chance, machine, number), stretch))
            yield machine, tuple(runs), book


class ErrorTest(LaneTest):
    def error(self, value, machine=THREE):
        return self.tell(ledger_error, machine=machine, value=value)

    def test_ledgers(self):
        for value in ((FIRST,), (FIRST, SECOND, THIRD), (FIRST,) * 8, (((None,) * 3, (-TOP, TOP)),)):
            self.assert_same(self.error(value), None)
        self.assert_same(self.error((((1,), (5, 5)),), (2,)), None)
        self.assert_same(self.error(((rests_of(PRIMES, TOP), (TOP, TOP)),), PRIMES), None)

    def test_form(self):
        for value in ((), [FIRST], (FIRST,) * 9, None, True, "run", {0: FIRST}, [], ((),) * 9, (None,) * 9):
            self.assert_same(self.error(value), "form")

    def test_runs_that_are_none(self):
        word, stretch = FIRST
        for run in (word, stretch, (word,), (word, stretch, 0), [word, stretch], (list(word), stretch), (word, list(stretch)),
                    (word[:2], stretch), (word + (0,), stretch), ((7, 0, 0), stretch), ((0, -1, 0), stretch),
                    ((0, 0, True), stretch), ((0, "1", 0), stretch), (word, (60, 0)), (word, (0,)), (word, (0, 9, 9)),
                    (word, (0, True)), (word, (0, TOP + 1)), (word, None), (None, stretch), (stretch, word), ()):
            self.assert_same(self.error((run,)), ("run", 0))
            self.assert_same(self.error((FIRST, run, run)), ("run", 1))
            self.assert_same(self.error((FIRST,) * 7 + (run,)), ("run", 7))
            self.assert_same(self.error((run,) * 9), "form")

    def test_any_value(self):
        for value in ODD_VALUES:
            several = isinstance(value, tuple) and 1 <= len(value) <= 8
            self.assert_same(self.error(value), ("run", 0) if several else "form")
            for run in (value, (FIRST[0], value), (value, value), (*FIRST, value)):
                self.assert_same(self.error((SECOND, run)), ("run", 1))
            # One of the odd values is a word, all lanes of which are silent.
            silent = value == (None, None, None)
            self.assert_same(self.error((SECOND, (value, FIRST[1]))), None if silent else ("run", 1))


class LedgerTest(LaneTest):
    def check(self, machine, ledger, book):
        """Check all that is told of a ledger by going through all lots and numbers."""
        named = {"machine": machine, "ledger": ledger, "book": book}
        accounts = plainruns.Accounts(machine, ledger, book)
        self.assert_same(self.tell(fitting_lots, **named), tuple(accounts.fits))
        if not accounts.fits:
            for function in SURE:
                self.refuse("NoLot()", function, **named)
            return accounts
        self.assert_same(self.tell(sure_numbers, **named), accounts.numbers())
        strays = accounts.strayers()
        lanes = range(len(machine))
        self.assert_same(self.tell(sure_strayers, **named), tuple(lane for lane in lanes if all(lane in lot for lot in strays)))
        self.assert_same(self.tell(sure_sound, **named), tuple(lane for lane in lanes if not any(lane in lot for lot in strays)))
        return accounts


class SmallTest(LedgerTest):
    def test_against_going_through_all_lots_and_numbers(self):
        seen = {"none": 0, "sure": 0, "open": 0, "strayers": 0}
        for machine, ledger, book in ledgers_by(231, 60, 25, 3):
            accounts = self.check(machine, ledger, book)
            told = accounts.numbers() if accounts.fits else ()
            seen["none"] += not accounts.fits
            seen["sure"] += any(number is not None for number in told)
            seen["open"] += any(number is None for number in told)
            seen["strayers"] += bool(accounts.fits) and bool(sure_strayers(machine, ledger, book))
        self.assertGreater(min(seen.values()), 30, seen)

    def test_told_ones(self):
        for ledger, book in (((FIRST,), 1), ((FIRST, SECOND), 1), ((FIRST, SECOND, THIRD), 1), ((SECOND, THIRD, FIRST), 1),
                             ((FIRST,), 0), ((THIRD, FIRST), ((0, 1), (2,))), ((((None,) * 3, (5, 9)),), 0), ((PLAIN,), 1),
                             ((PLAIN, SECOND), 1), ((((6, None, 7), (0, 200)),), 0), ((((6, None, 7), (0, 90)),), 0),
                             ((PLAIN, PLAIN), 2), ((PLAIN, FIRST), ((1,),)), ((FIRST, PLAIN), ((0,), (1, 2)))):
            self.check(THREE, ledger, book)

    def test_all_words_of_a_small_machine(self):
        for word in plain.all_words((2, 3)):
            for book in (0, 1, 2, ((0,),), ((1,),), ((0,), (1,)), ((),)):
                self.check((2, 3), ((word, (0, 3)), ((1, 2), (-2, 2))), book)

    def test_numbers_of_unlike_runs_are_chosen_freely(self):
        # In each run the lane 2 agrees with one of two numbers, and strays from the other one.
        accounts = self.check((7, 11, 5), (((None, 4, 4), (0, 15)), ((None, 4, 0), (0, 15))), ((2,),))
        self.assertEqual(accounts.strayers(), {frozenset(), frozenset((2,))})
        self.check(THREE, (((None, 4, 6), (0, 40)),) * 2, ((2,),))

    def test_silent_lanes(self):
        for word in ((None, None, 7), (None, 4, None), (6, None, None), (None, None, None)):
            self.check(THREE, ((word, (0, 60)), FIRST), 1)
            self.check(THREE, ((word, (0, 5)), (word, (3, 30))), 2)
            self.check(THREE, ((word, (0, 5)),) * 2, 3)
        self.assert_same(sure_sound(THREE, (((6, None, 7), (0, 90)),), 3), (1,))


class GreatTest(LedgerTest):
    def test_eight_runs(self):
        chance = Random(232)
        for machine in SMALL + (PRIMES,):
            for _ in range(6):
                lot = tuple(sorted(chance.sample(range(len(machine)), min(2, len(machine) - 1))))
                runs, results = [], []
                for _ in range(8):
                    low = chance.randint(-TOP, TOP - 3)
                    results.append(chance.randint(low, low + 3))
                    word = list(rests_of(machine, results[-1]))
                    for lane in lot:
                        word[lane] = chance.randrange(machine[lane])
                    runs.append((tuple(word), (low, low + 3)))
                for book in (len(lot), (lot,), len(machine)):
                    accounts = self.check_lots(machine, tuple(runs), book)
                    self.assertIn(lot if lot in accounts.fits else tuple(range(len(machine))), accounts.fits)
                    for told, number in zip(accounts.numbers(), results):
                        self.assertIn(told, (None, number))

    def check_lots(self, machine, ledger, book):
        """Check fitting_lots and sure_numbers alone; strayers are checked lane by lane, in each run by itself."""
        named = {"machine": machine, "ledger": ledger, "book": book}
        accounts = plainruns.Accounts(machine, ledger, book)
        self.assert_same(self.tell(fitting_lots, **named), tuple(accounts.fits))
        self.assert_same(self.tell(sure_numbers, **named), accounts.numbers())
        must, may = set(range(len(machine))), set()
        for lists in accounts.fits.values():
            each = [[set(straying(machine, word, number)) for number in numbers]
                    for (word, _), numbers in zip(ledger, lists)]
            must &= {lane for run in each for lane in set.intersection(*run)}
            may |= {lane for run in each for lot in run for lane in lot}
        self.assert_same(self.tell(sure_strayers, **named), tuple(sorted(must)))
        self.assert_same(self.tell(sure_sound, **named), tuple(sorted(set(range(len(machine))) - may)))
        return accounts

    def test_ten_lanes_and_great_stretches(self):
        for book in (2, 5, FIVES, MOST, ((1, 3),), ((0, 1, 2), (1, 3, 4))):
            runs, number = [], 123456789012345678901234567890
            for turn in range(8):
                word = list(rests_of(GREAT_PRIMES, number + turn))
                word[1], word[3] = (word[1] + 1 + turn) % GREAT_PRIMES[1], (word[3] + 5) % GREAT_PRIMES[3]
                runs.append((tuple(word), (0, 10 ** 30)))
            named = {"machine": GREAT_PRIMES, "ledger": tuple(runs), "book": book}
            told = tuple(lot for lot in lots_of(GREAT_PRIMES, book) if {1, 3} <= set(lot))
            if book in (2, ((1, 3),), ((0, 1, 2), (1, 3, 4))):
                self.assert_same(self.tell(fitting_lots, **named), told)
                self.assert_same(self.tell(sure_numbers, **named), tuple(number + turn for turn in range(8)))
                self.assert_same(self.tell(sure_strayers, **named), (1, 3))
                self.assert_same(self.tell(sure_sound, **named), (0, 2, 4, 5, 6, 7, 8, 9))
            else:
                # Five lanes have a span of 10 ** 30 or less, so that other lots fit, too.
                self.assertLessEqual(set(told), set(self.tell(fitting_lots, **named)))

    def test_stretches_beyond_the_span(self):
        for high in (TOP, 1000, 1001, 1002):
            for low in (-TOP, 0, 1):
                for book in (0, 1, 2, ((0,), (1, 2))):
                    ledger = ((rests_of(THREE, 5), (low, high)), (rests_of(THREE, 6), (low, high)))
                    numbers = tuple(number if low + 1001 > number and number + 1001 > high and book == 0 else None
                                    for number in (5, 6))
                    self.assert_same(self.tell(sure_numbers, machine=THREE, ledger=ledger, book=book), numbers)
                    self.assert_same(self.tell(sure_strayers, machine=THREE, ledger=ledger, book=book), ())
                    sound = (0, 1, 2) if book == 0 else ()
                    self.assert_same(self.tell(sure_sound, machine=THREE, ledger=ledger, book=book), sound)

    def test_wide_runs_beside_narrow_ones(self):
        # The narrow run bars all lots but (1,); the wide one has numbers beyond counting for it.
        wide = ((6, 4, 7), (-TOP, TOP))
        ledger = (wide, SECOND, THIRD, FIRST)
        self.assert_same(self.tell(fitting_lots, machine=THREE, ledger=ledger, book=1), ((1,),))
        self.assert_same(self.tell(sure_numbers, machine=THREE, ledger=ledger, book=1), (None, 45, 10, 20))
        self.assert_same(self.tell(sure_strayers, machine=THREE, ledger=ledger, book=1), (1,))
        self.assert_same(self.tell(sure_sound, machine=THREE, ledger=ledger, book=1), (0, 2))

    def test_alike_lanes(self):
        machine = (10 ** 6,) * 10
        word = (5,) * 6 + (7,) * 4
        ledger = ((word, (0, TOP)),)
        self.refuse("NoLot()", sure_numbers, machine=machine, ledger=ledger, book=3)
        self.assert_same(self.tell(fitting_lots, machine=machine, ledger=ledger, book=4), ((6, 7, 8, 9),))
        self.assert_same(self.tell(sure_strayers, machine=machine, ledger=ledger, book=4), (6, 7, 8, 9))
        self.assert_same(self.tell(sure_numbers, machine=machine, ledger=ledger, book=4), (None,))
        self.assertEqual(len(fitting_lots(machine, ledger, 5)), 6)
        self.assert_same(self.tell(sure_strayers, machine=machine, ledger=ledger, book=5), (6, 7, 8, 9))
        self.assert_same(self.tell(sure_sound, machine=machine, ledger=ledger, book=5), (0, 1, 2, 3, 4, 5))
        self.assert_same(self.tell(sure_strayers, machine=machine, ledger=ledger, book=6), ())


class HoldsTest(LaneTest):
    def test_what_was_is_an_account(self):
        chance = Random(233)
        for machine in SMALL:
            for _ in range(20):
                book = book_by(chance, machine)
                lot, runs, results = chance.choice(plain.lots_let(machine, book)), [], []
                for _ in range(chance.randint(1, 5)):
                    low, high = stretch_by(chance, 10 ** 9)
                    results.append(chance.randint(low, high))
                    word = tuple(chance.choice((None, chance.randrange(modulus))) if lane in lot else results[-1] % modulus
                                 for lane, modulus in enumerate(machine))
                    runs.append((word, (low, high)))
                ledger = tuple(runs)
                self.assertTrue(any(set(lot) <= set(other) for other in fitting_lots(machine, ledger, book)))
                for told, number in zip(sure_numbers(machine, ledger, book), results):
                    self.assertIn(told, (None, number))
                strayed = {lane for (word, _), number in zip(ledger, results) for lane in straying(machine, word, number)}
                self.assertLessEqual(set(sure_strayers(machine, ledger, book)), strayed)
                self.assertFalse(set(sure_sound(machine, ledger, book)) & strayed)

    def test_a_run_more(self):
        for machine, ledger, book in ledgers_by(234, 12, 40, 4):
            lots, fewer = fitting_lots(machine, ledger, book), fitting_lots(machine, ledger[:-1], book) if ledger[1:] else None
            if fewer is None or not lots:
                continue
            self.assertLessEqual(set(lots), set(fewer))
            for told, more in zip(sure_numbers(machine, ledger[:-1], book), sure_numbers(machine, ledger, book)):
                self.assertIn(told, (None, more))
            self.assertLessEqual(set(sure_strayers(machine, ledger[:-1], book)), set(sure_strayers(machine, ledger, book)))

    def test_one_run_as_tell(self):
        for machine, ledger, book in ledgers_by(235, 25, 200, 1):
            (word, stretch), = ledger
            try:
                told = (tell(machine, word, stretch, book),)
            except Unsure:
                told = (None,)
            except Strayed:
                with self.assertRaises(NoLot):
                    sure_numbers(machine, ledger, book)
                continue
            self.assert_same(self.tell(sure_numbers, machine=machine, ledger=ledger, book=book), told)

    def test_what_is_borne_is_sure(self):
        for machine, ledger, book in ledgers_by(236, 25, 6, 4):
            lots = fitting_lots(machine, ledger, book)
            if not lots:
                continue
            numbers = sure_numbers(machine, ledger, book)
            for (word, (low, high)), told in zip(ledger, numbers):
                if None not in word and bears(machine, high - low + 1, (book, book, 0)):
                    self.assertIsNotNone(told)
                kept = tuple(lane for lane, item in enumerate(word) if item is not None and lane not in lots[0])
                if len(lots) == 1 and span_of(machine, kept) >= high - low + 1:
                    self.assertIsNotNone(told)


if __name__ == "__main__":
    unittest.main()
