"""What DOC.md tells, reckoned by going through everything; for small machines and stretches alone."""

from itertools import combinations, product
from math import lcm

TOLD_AT_MOST = 200


def all_lots(machine):
    lanes = range(len(machine))
    return [lot for many in range(len(machine) + 1) for lot in combinations(lanes, many)]


def all_words(machine):
    return list(product(*[(None, *range(modulus)) for modulus in machine]))


def speaking(word):
    return [lane for lane, item in enumerate(word) if item is not None]


def silent(word):
    return tuple(lane for lane, item in enumerate(word) if item is None)


def astray(machine, word, number):
    return tuple(lane for lane in speaking(word) if word[lane] != number % machine[lane])


def lets(book, lanes):
    if isinstance(book, int):
        return len(lanes) <= book
    return any(set(lanes) <= set(lot) for lot in book)


def lots_let(machine, book):
    return [lot for lot in all_lots(machine) if lets(book, lot)]


def span_outside(machine, *lots):
    lost = {lane for lot in lots for lane in lot}
    return lcm(*[modulus for lane, modulus in enumerate(machine) if lane not in lost])


def reach(machine, guard):
    right, seen, still = guard
    ones, thirds = lots_let(machine, right), lots_let(machine, still)
    lost = {frozenset((*one, *other, *third)) for one in ones for other in ones + lots_let(machine, seen)
            for third in thirds}
    return min(span_outside(machine, lanes) for lanes in lost)


def is_choice(machine, guard, value):
    right, seen, still = guard
    if not isinstance(value, tuple) or len(value) != 3 or not all(lot in all_lots(machine) for lot in value):
        return False
    one, other, third = value
    return lets(right, one) and (lets(right, other) or lets(seen, other)) and lets(still, third)


def is_mix_up(machine, stretch, guard, one, other, word):
    right, seen, still = guard
    low, high = stretch
    from_other = astray(machine, word, other)
    return (low <= one <= high and low <= other <= high and one != other and lets(still, silent(word))
            and lets(right, astray(machine, word, one)) and (lets(right, from_other) or lets(seen, from_other)))


def numbers(stretch):
    return range(stretch[0], stretch[1] + 1)


def agreed_numbers(machine, word, stretch):
    return [number for number in numbers(stretch) if not astray(machine, word, number)]


def candidates(machine, word, stretch, book):
    return [number for number in numbers(stretch) if lets(book, astray(machine, word, number))]


def row_by_steps(machine, word, lanes, stretch):
    """Return first, step, many of the numbers of stretch with which lanes agree, None if there are none.

    It goes through numbers one by one until a lane agrees; so the stretch may be great, but no modulus.
    """
    first, step = stretch[0], 1
    for lane in lanes:
        tried = 0
        while (first - word[lane]) % machine[lane]:
            first, tried = first + step, tried + 1
            if tried == machine[lane]:
                return None
        step = lcm(step, machine[lane])
    return (first, step, (stretch[1] - first) // step + 1) if first <= stretch[1] else None


def rows_by_steps(machine, word, stretch, book):
    """Return the rows of the candidates, one for each lot that book lets, but for those without numbers."""
    lots = {tuple(lane for lane in speaking(word) if lane not in lot) for lot in lots_let(machine, book)}
    rows = [row_by_steps(machine, word, lanes, stretch) for lanes in sorted(lots)]
    return [row for row in rows if row is not None]


def nearest(machine, word, stretch):
    return min((len(astray(machine, word, number)), number) for number in numbers(stretch))


def suspects(machine, word, found):
    """Return what suspects tells where found are all candidates, at least one."""
    told = []
    for lane, item in enumerate(word):
        strays = [lane in astray(machine, word, number) for number in found]
        told.append("silent" if item is None else "strays" if all(strays) else "open" if any(strays) else "agrees")
    return tuple(told)


def euclid_told(machine, word, stretch):
    """Return all pairs that euclid_tell may tell, where the lanes that speak have no common divisors."""
    whole = lcm(*[machine[lane] for lane in speaking(word)])
    told = []
    for number in numbers(stretch):
        lanes = astray(machine, word, number)
        e = lcm(*[machine[lane] for lane in lanes])
        if 2 * e * e * (stretch[1] - stretch[0]) < whole:
            told.append((number, lanes))
    return told
