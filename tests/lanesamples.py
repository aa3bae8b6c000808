"""Machines, books and words for the tests of spans, guards and tellings, made from a told seed: the same each time."""

from itertools import combinations
from random import Random

from tests.plain import all_lots

# One lane to four: with common divisors, alike, without; in and out of order.
SMALL = ((2,), (5,), (4, 6), (5, 5), (3, 2), (7, 11), (4, 6, 9), (7, 11, 13), (6, 6, 6), (2, 4, 8), (6, 10, 15),
         (3, 2, 5), (2, 3, 5, 7), (9, 4, 6, 10), (6, 6, 10, 15), (12, 18, 8, 27), (5, 5, 5, 5), (8, 7, 9, 12))
# Ten lanes, or great moduli.
PRIMES = (2, 3, 5, 7, 11, 13, 17, 19, 23, 29)
GREAT_PRIMES = (999983, 999979, 999961, 999959, 999953, 999931, 999917, 999907, 999883, 999863)
GREAT = (PRIMES, GREAT_PRIMES, (6, 10, 15, 6, 10, 15, 30, 60, 12, 20), (10 ** 6,) * 10,
         tuple(10 ** 6 - 2 * lane for lane in range(10)), (2, 4, 8, 16, 32, 64, 3, 9, 27, 81),
         (999999, 10 ** 6, 999998), (10 ** 6,), (510510, 30030, 746130, 881790))
# As many lots as a book may have, of one size and of two.
FIVES = tuple(combinations(range(10), 5))
MOST = tuple(sorted(FIVES[:200] + tuple(combinations(range(10), 4))[:52]))
TOP = 10 ** 60


def lot_books(machine):
    """Return all books of lots; for machines of one lane or two there are few."""
    lots = sorted(all_lots(machine))
    return [book for many in range(1, len(lots) + 1) for book in combinations(lots, many)]


def book_by(chance, machine, most=4):
    """Return a book: a number or, as often, some lots."""
    lane_count = len(machine)
    if chance.randint(0, 1):
        return chance.randint(0, lane_count)
    lots = {tuple(sorted(chance.sample(range(lane_count), chance.randint(0, lane_count))))
            for _ in range(chance.randint(1, most))}
    return tuple(sorted(lots))


def guard_by(chance, machine):
    return tuple(book_by(chance, machine) for _ in range(3))


def word_by(chance, machine, number):
    """Return a word: that of number but for some lanes that stray or are silent."""
    word = [number % modulus for modulus in machine]
    for lane, modulus in enumerate(machine):
        turn = chance.randint(0, 5)
        if turn == 0:
            word[lane] = None
        elif turn <= 2:
            word[lane] = chance.randint(0, modulus - 1)
    return tuple(word)


def stretch_by(chance, longest):
    low = chance.randint(-longest, longest)
    return (low, low + chance.randint(0, longest))


def cases_by(seed, turns, machines=SMALL, longest=120):
    """Yield machine, word, stretch and book that many times for each machine."""
    chance = Random(seed)
    for machine in machines:
        for _ in range(turns):
            stretch = stretch_by(chance, longest)
            word = word_by(chance, machine, chance.randint(*stretch))
            yield machine, word, stretch, book_by(chance, machine)
