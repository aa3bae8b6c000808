"""What a word tells: part E."""

import unittest
from random import Random

from straylanes.errors import Unsure
from straylanes.guards import bears, reach
from straylanes.machines import rests_of
from straylanes.mixups import mix_up
from straylanes.spans import span_of
from straylanes.tellings import candidates, mended, nearest, suspects, tell
from tests import plain
from tests.lanesamples import (FIVES, GREAT, GREAT_PRIMES, MOST, PRIMES, SMALL, TOP, book_by, cases_by, guard_by,
                               stretch_by, word_by)
from tests.support import LaneTest

THREE = (7, 11, 13)
# Moduli small enough to go through their rests, in stretches too great to go through.
LOW = (PRIMES, (6, 10, 15, 6, 10, 15, 30, 60, 12, 20), (2, 4, 8, 16, 32, 64, 3, 9, 27, 81), (7, 11, 13, 8, 9))


class TellingTest(LaneTest):
    def check(self, machine, word, stretch, book):
        """Check candidates, tell, mended and suspects by all candidates, told by going through all numbers."""
        named = {"machine": machine, "word": word, "stretch": stretch, "book": book}
        found = plain.candidates(machine, word, stretch, book)
        if len(found) <= plain.TOLD_AT_MOST:
            self.assert_same(self.tell(candidates, **named), tuple(found))
        else:
            self.refuse("TooMany(200)", candidates, **named)
        if not found:
            for function in (tell, mended, suspects):
                self.refuse("Strayed()", function, **named)
            return found
        self.assert_same(self.tell(suspects, **named), plain.suspects(machine, word, found))
        if len(found) == 1:
            self.assert_same(self.tell(tell, **named), found[0])
            self.assert_same(self.tell(mended, **named), rests_of(machine, found[0]))
        else:
            for function in (tell, mended):
                self.refuse(f"Unsure({tuple(found[:2])})", function, **named)
        return found


class SmallTest(TellingTest):
    def test_against_going_through_all_numbers(self):
        seen = {"none": 0, "one": 0, "some": 0, "too many": 0}
        for machine, word, stretch, book in cases_by(61, 60):
            many = len(self.check(machine, word, stretch, book))
            seen["none" if not many else "one" if many == 1 else "some" if many <= 200 else "too many"] += 1
        for machine, word, stretch, book in cases_by(62, 10, longest=900):
            many = len(self.check(machine, word, stretch, book))
            seen["none" if not many else "one" if many == 1 else "some" if many <= 200 else "too many"] += 1
        self.assertGreater(min(seen.values()), 30, seen)

    def test_all_words_and_numbers_of_small_machines(self):
        for machine in ((5,), (2, 3), (4, 2), (2, 2, 2)):
            for word in plain.all_words(machine):
                for book in range(len(machine) + 1):
                    self.check(machine, word, (-2, 4), book)

    def test_nearest_against_going_through_all_numbers(self):
        for machine, word, stretch, _ in cases_by(63, 60):
            told = plain.nearest(machine, word, stretch)
            self.assert_same(self.tell(nearest, machine=machine, word=word, stretch=stretch), told)

    def test_one_number(self):
        for machine, word, (low, _), book in cases_by(64, 20):
            self.check(machine, word, (low, low), book)
            few = len(plain.astray(machine, word, low))
            self.assert_same(self.tell(nearest, machine=machine, word=word, stretch=(low, low)), (few, low))

    def test_ten_lanes_and_five(self):
        chance = Random(65)
        for machine in LOW:
            for _ in range(10):
                stretch = stretch_by(chance, 200)
                word = word_by(chance, machine, chance.randint(*stretch))
                for book in (0, 2, 5, book_by(chance, machine, 8)):
                    self.check(machine, word, stretch, min(book, len(machine)) if isinstance(book, int) else book)
                self.assert_same(nearest(machine, word, stretch), plain.nearest(machine, word, stretch))


class ManyTest(TellingTest):
    def test_just_200_and_201_of_one_row(self):
        for word, step in (((None, None, None), 1), ((None, 5, None), 11), ((3, None, 5), 91)):
            first = plain.agreed_numbers(THREE, word, (0, 91))[0]
            for low in (first, first - step + 1):
                found = self.check(THREE, word, (low, first + 200 * step - 1), 0)
                self.assertEqual(len(found), 200)
                found = self.check(THREE, word, (low, first + 200 * step), 0)
                self.assertEqual(len(found), 201)

    def test_just_200_and_201_of_several_rows(self):
        # Numbers of more than one row count once.
        for machine, word, book in (((2, 3), (0, 0), 1), ((6, 10, 15), (1, 1, 1), 2), ((7, 11, 13), (1, 2, 3), 2),
                                    ((2, 3, 5), (0, 1, 2), ((0, 1), (0, 2), (1,)))):
            found = plain.candidates(machine, word, (0, 3000), book)
            self.assertEqual(len(self.check(machine, word, (0, found[200] - 1), book)), 200)
            self.assertEqual(len(self.check(machine, word, (0, found[200]), book)), 201)

    def test_great_ones(self):
        self.refuse("TooMany(200)", candidates, machine=THREE, word=(1, 2, 3), stretch=(-TOP, TOP), book=0)
        self.refuse("TooMany(200)", candidates, machine=THREE, word=(None,) * 3, stretch=(-TOP, TOP), book=3)
        for function in (tell, mended):
            self.refuse(f"Unsure(({-TOP}, {1 - TOP}))", function, machine=THREE, word=(None,) * 3, stretch=(-TOP, TOP),
                        book=0)
            self.refuse(f"Unsure(({-TOP}, {1 - TOP}))", function, machine=THREE, word=(1, 2, 3), stretch=(-TOP, TOP),
                        book=3)
        self.assert_same(self.tell(suspects, machine=THREE, word=(1, None, 3), stretch=(-TOP, TOP), book=3),
                         ("open", "silent", "open"))
        self.assert_same(self.tell(suspects, machine=THREE, word=(None,) * 3, stretch=(-TOP, TOP), book=0),
                         ("silent",) * 3)
        self.assert_same(self.tell(nearest, machine=THREE, word=(None,) * 3, stretch=(-TOP, TOP)), (0, -TOP))
        self.assert_same(self.tell(nearest, machine=(10 ** 6,), word=(7,), stretch=(8, TOP)), (0, 10 ** 6 + 7))
        # One is odd and the other one even, so one lane has to stray.
        first = min(-TOP + (7 + TOP) % 10 ** 6, -TOP + (8 + TOP) % 999998)
        self.assert_same(self.tell(nearest, machine=(10 ** 6, 999998), word=(7, 8), stretch=(-TOP, TOP)), (1, first))

    def test_stretches_too_great_to_go_through(self):
        chance = Random(66)
        for machine in LOW:
            for turn in range(24):
                low = chance.randint(-TOP, TOP)
                stretch = (low, low + (10 ** 3, 10 ** 6, 10 ** 12, TOP)[turn % 4])
                word = word_by(chance, machine, chance.randint(*stretch))
                book = book_by(chance, machine, 8) if turn % 3 else turn // 6
                self.check_by_rows(machine, word, stretch, book)

    def check_by_rows(self, machine, word, stretch, book):
        named = {"machine": machine, "word": word, "stretch": stretch}
        rows = plain.rows_by_steps(machine, word, stretch, book)
        least = sorted({first + step * turn for first, step, many in rows for turn in range(min(many, 2))})[:2]
        if not least:
            self.refuse("Strayed()", tell, **named, book=book)
            self.refuse("Strayed()", suspects, **named, book=book)
        elif len(least) == 2:
            self.refuse(f"Unsure({tuple(least)})", tell, **named, book=book)
        else:
            self.assert_same(self.tell(tell, **named, book=book), least[0])
        if least:
            # Which numbers of a row agree with a lane is told by as many of them as its modulus has rests.
            some = {first + step * turn for first, step, many in rows for turn in range(min(many, 100))}
            self.assert_same(self.tell(suspects, **named, book=book), plain.suspects(machine, word, sorted(some)))
        few, number = self.tell(nearest, **named)
        self.assert_same(number, min(plain.rows_by_steps(machine, word, stretch, few))[0])
        if few:
            self.assertEqual(plain.rows_by_steps(machine, word, stretch, few - 1), [])


class BorneTest(LaneTest):
    def test_borne_stretches_are_told_right_by_all_words(self):
        for machine in ((7, 3, 5), (4, 6, 9), (3, 3, 3), (5, 2, 3)):
            for book in (0, 1, ((0,), (1,)), ((0,), (1, 2)), ((1,),)):
                for still in (0, 1, ((2,),)):
                    many = reach(machine, (book, book, still))
                    stretch = (-2, many - 3)
                    for word in plain.all_words(machine):
                        self.check_word(machine, word, stretch, book, still)

    def check_word(self, machine, word, stretch, book, still):
        """Whichever number of the stretch a word can have come from is told, and nothing else is."""
        if not plain.lets(still, plain.silent(word)):
            return
        results = plain.candidates(machine, word, stretch, book)
        self.assertLessEqual(len(results), 1, (machine, word, stretch, book))
        if results:
            self.assertEqual(tell(machine, word, stretch, book), results[0])
        else:
            self.refuse("Strayed()", tell, machine=machine, word=word, stretch=stretch, book=book)

    def test_never_wrong_behind_strays_that_the_wider_book_lets(self):
        chance, strayed = Random(67), 0
        for machine in SMALL + ((7, 11, 13, 17, 19),):
            for _ in range(25):
                guard = guard_by(chance, machine)
                book, seen, still = guard
                low = chance.randint(-99, 99)
                number = low + chance.randint(0, reach(machine, guard) - 1)
                stretch = (low, low + reach(machine, guard) - 1)
                word, lanes = list(rests_of(machine, number)), chance.choice(plain.lots_let(machine, seen))
                for lane in lanes:
                    word[lane] = chance.randint(0, machine[lane] - 1)
                for lane in chance.choice(plain.lots_let(machine, still)):
                    word[lane] = None
                named = {"machine": machine, "word": tuple(word), "stretch": stretch, "book": book}
                if plain.lets(book, plain.astray(machine, word, number)):
                    self.assert_same(self.tell(tell, **named), number)
                    self.assert_same(self.tell(mended, **named), rests_of(machine, number))
                else:
                    self.refuse("Strayed()", tell, **named)
                    strayed += 1
        self.assertGreater(strayed, 40)

    def test_great_machines(self):
        chance = Random(68)
        for machine in GREAT:
            lanes = len(machine)
            for book in [t for t in range(6) if 2 * t < lanes] + [book_by(chance, machine) for _ in range(5)]:
                many = reach(machine, (book, book, 0))
                low = chance.randint(-TOP, 0)
                number = low + chance.randint(0, many - 1)
                word = list(rests_of(machine, number))
                for lane in chance.choice(plain.lots_let(machine, book)):
                    word[lane] = chance.randint(0, machine[lane] - 1)
                named = {"machine": machine, "word": tuple(word), "stretch": (low, low + many - 1), "book": book}
                self.assertTrue(bears(machine, many, (book, book, 0)))
                self.assert_same(self.tell(tell, **named), number)
                self.assert_same(self.tell(mended, **named), rests_of(machine, number))
                self.assert_same(self.tell(candidates, **named), (number,))
                self.assert_same(self.tell(suspects, **named), tuple(
                    "strays" if lane in plain.astray(machine, word, number) else "agrees" for lane in range(lanes)))

    def test_five_of_ten_lanes_and_252_lots(self):
        number = 123456789 ** 3
        for lane in range(0, 6):
            word = list(rests_of(GREAT_PRIMES, number))
            word[lane:lane + 5] = [7, 8, 9, 10, 11][:len(word[lane:lane + 5])]
            for book in (5, FIVES):
                # Any other number that five lanes agree with is far away.
                stretch = (number - 10 ** 20, number + 10 ** 20)
                self.assert_same(self.tell(tell, machine=GREAT_PRIMES, word=tuple(word), stretch=stretch, book=book),
                                 number)
            self.refuse("Strayed()", tell, machine=GREAT_PRIMES, word=tuple(word),
                        stretch=(number - 10 ** 20, number + 10 ** 20), book=4)
        self.assert_same(self.tell(candidates, machine=GREAT_PRIMES, word=rests_of(GREAT_PRIMES, number),
                                   stretch=(0, 10 ** 27), book=MOST), (number,))


class HoldsTest(LaneTest):
    def test_more_lets_and_greater_stretches_have_the_same_candidates_and_perhaps_more(self):
        for machine, word, (low, high), book in cases_by(69, 15, longest=100):
            found = candidates(machine, word, (low, high), book)
            wider = min(book + 1, len(machine)) if isinstance(book, int) else tuple(sorted({*book, ()}))
            self.assertLessEqual(set(found), set(candidates(machine, word, (low, high), wider)))
            self.assertLessEqual(set(found), set(candidates(machine, word, (low - 9, high + 9), book)))

    def test_candidates_for_numbers_fit_nearest(self):
        for machine, word, stretch, _ in cases_by(70, 15, longest=100):
            few, number = nearest(machine, word, stretch)
            for t in range(len(machine) + 1):
                found = candidates(machine, word, stretch, t)
                self.assertEqual(found == (), t < few)
                if t == few:
                    self.assertEqual(found[0], number)

    def test_what_is_mended_tells_the_same(self):
        told = 0
        for machine, word, stretch, book in cases_by(71, 120):
            if len(plain.candidates(machine, word, stretch, book)) == 1:
                whole = mended(machine, word, stretch, book)
                self.assertEqual(tell(machine, whole, stretch, 0), tell(machine, word, stretch, book))
                self.assertNotIn("open", suspects(machine, word, stretch, book))
                told += 1
        self.assertGreater(told, 100)

    def test_where_a_stretch_is_not_borne_the_word_of_a_mix_up_has_two_candidates(self):
        chance = Random(72)
        for machine in SMALL + GREAT:
            for _ in range(10):
                book, still = book_by(chance, machine), book_by(chance, machine)
                guard, low = (book, book, still), chance.randint(-TOP, 0)
                stretch = (low, low + reach(machine, guard))
                one, other, word = mix_up(machine, stretch, guard)
                with self.assertRaises(Unsure) as caught:
                    tell(machine, word, stretch, book)
                self.assertLessEqual(caught.exception.numbers[1], max(one, other))

    def test_single_numbers_of_great_spans(self):
        for machine in GREAT:
            span = span_of(machine, tuple(range(len(machine))))
            word = rests_of(machine, 5)
            self.assert_same(self.tell(tell, machine=machine, word=word, stretch=(5, 4 + span), book=0), 5)
            self.refuse(f"Unsure((5, {5 + span}))", tell, machine=machine, word=word, stretch=(5, 5 + span), book=0)
            self.refuse("Strayed()", tell, machine=machine, word=word, stretch=(6, 4 + span), book=0)
            self.assert_same(self.tell(tell, machine=machine, word=word, stretch=(6, 5 + span), book=0), 5 + span)


if __name__ == "__main__":
    unittest.main()
