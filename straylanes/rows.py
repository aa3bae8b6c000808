"""Rows of numbers: a triple (first, step, many) stands for first, first + step and so on, many of them."""

from math import gcd


def narrowed(row, modulus, rest):
    """Return the row of the numbers of row that have this rest by modulus, None if there are none."""
    first, step, many = row
    common = gcd(step, modulus)
    off = rest - first
    if off % common != 0:
        return None
    part = modulus // common
    skipped = off // common * inverse_of(step // common, part) % part
    if skipped >= many:
        return None
    return (first + skipped * step, step * part, (many - 1 - skipped) // part + 1)


def inverse_of(number, modulus):
    """Return what makes the rest 1 by modulus if it is taken times number; both have no common divisor above 1."""
    ahead, rest = modulus, number % modulus
    ahead_times, times = 0, 1
    while rest > 1:
        goes = ahead // rest
        ahead, rest = rest, ahead - goes * rest
        ahead_times, times = times, ahead_times - goes * times
    return times


class AgreeingRows:
    """The numbers of a stretch with which told lanes of a word agree, a row for each lot of lanes."""

    def __init__(self, machine, word, stretch):
        low, high = stretch
        self.machine = machine
        self.word = word
        # Lots that begin alike share their work.
        self.known = {(): (low, 1, high - low + 1)}

    def row(self, lanes):
        """Return the row of the numbers with which all of lanes agree, None if there are none; lanes speak."""
        if lanes not in self.known:
            found = self.row(lanes[:-1])
            if found is not None:
                found = narrowed(found, self.machine[lanes[-1]], self.word[lanes[-1]])
            self.known[lanes] = found
        return self.known[lanes]
