"""Spans of lanes, lanes that clash, and the numbers with which all lanes that speak agree."""

from math import gcd, lcm

from straylanes.errors import Clash
from straylanes.lanes import speaking
from straylanes.rows import AgreeingRows


def span_of(machine, lanes):
    """Return the least common multiple of the moduli of lanes."""
    span = 1
    for lane in lanes:
        span = lcm(span, machine[lane])
    return span


def same_lanes(machine, one, other):
    """Return the lanes in which the numbers one and other have one rest."""
    return tuple([lane for lane, modulus in enumerate(machine) if (one - other) % modulus == 0])


def clashes(machine, word):
    """Return the ascending tuple of the pairs of lanes of word that clash."""
    lanes = speaking(word)
    return tuple([(i, j) for i in lanes for j in lanes if i < j and is_clash(machine, word, i, j)])


def is_clash(machine, word, i, j):
    """Tell whether the lanes i and j of word, which speak, clash."""
    return (word[i] - word[j]) % gcd(machine[i], machine[j]) != 0


def numbers_of(machine, word, stretch):
    """Return the row (first, step, many) of the numbers of stretch with which all lanes that speak agree.

    It is None if there are none; Clash(lanes) is raised if lanes clash, with the first pair of them.
    """
    pairs = clashes(machine, word)
    if pairs:
        raise Clash(pairs[0])
    return AgreeingRows(machine, word, stretch).row(speaking(word))
