"""One run of Euclid's rule, and what it tells of a word whose lanes have no common divisors."""

from straylanes.errors import Unfit
from straylanes.lanes import speaking
from straylanes.machines import straying
from straylanes.spans import numbers_of, span_of


def euclid_rows(a, b):
    """Return the tuple of the pairs (rest, times) of Euclid's rule for a and b, which is less than a."""
    rows = [(a, 0), (b, 1)]
    while rows[-1][0] != 0:
        (rest, times), (last, last_times) = rows[-2], rows[-1]
        goes = rest // last
        rows.append((rest - goes * last, times - goes * last_times))
    return tuple(rows)


def euclid_tell(machine, word, stretch):
    """Return the pair of the number of stretch from which so few lanes stray, and of these; None if there is none.

    Unfit() is raised if no lane speaks, or two that speak have a common divisor above 1.
    """
    lanes = speaking(word)
    product = product_of(machine, lanes)
    # Without common divisors, and just then, the least common multiple is the product.
    if not lanes or span_of(machine, lanes) != product:
        raise Unfit()
    low, high = stretch
    meeting, _, _ = numbers_of(machine, word, (low, low + product - 1))
    for rest, times in euclid_rows(product, meeting - low)[1:]:
        if rest % times == 0 and 0 <= rest // times <= high - low:
            number = low + rest // times
            strayed = straying(machine, word, number)
            if 2 * product_of(machine, strayed) ** 2 * (high - low) < product:
                return (number, strayed)
    return None


def product_of(machine, lanes):
    """Return the product of the moduli of lanes."""
    product = 1
    for lane in lanes:
        product = product * machine[lane]
    return product
