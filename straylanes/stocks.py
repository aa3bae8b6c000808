"""Choosing lanes: which lanes of a stock do at the least price, and which lane more does."""

from math import lcm

from straylanes.bounds import MAX_LANES, MAX_MODULUS, MAX_MORE, MAX_PRICE, MAX_STOCK
from straylanes.guards import least_spans, span_left, spans_by_count
from straylanes.integers import is_within


def stock_error(value):
    """Return None for a stock, otherwise the first thing that is wrong with value."""
    if not isinstance(value, tuple) or not 1 <= len(value) <= MAX_STOCK:
        return "form"
    for place, item in enumerate(value):
        if not is_item(item):
            return ("item", place)
    return None


def is_item(value):
    """Tell whether value, any value, is a pair of a modulus and a price."""
    if not isinstance(value, tuple) or len(value) != 2:
        return False
    modulus, price = value
    return is_within(modulus, 2, MAX_MODULUS) and is_within(price, 0, MAX_PRICE)


def cheapest(stock, many, t):
    """Return the least price of places of stock whose machine does for t and many, and such places.

    It is None if no places do.
    """
    for price, places in sorted(priced_places(stock)):
        if does_for([stock[place][0] for place in places], many, t):
            return (price, places)
    return None


def priced_places(stock):
    """Return a list of pairs of the price and of the places, for all lots of places of stock but ()."""
    priced = [(0, ())]
    for place, (_, price) in enumerate(stock):
        priced = priced + [(ahead + price, places + (place,)) for ahead, places in priced]
    return priced[1:]


def does_for(machine, many, t):
    """Tell whether machine has at least t lanes, and any 2 * t of them left out have a span of at least many."""
    return len(machine) >= t and span_left(least_spans(machine), t) >= many


def outdoes(one, other):
    """Tell whether, for each t, any 2 * t lanes left out, one has no less a least span than other."""
    least, other_least = least_spans(one), least_spans(other)
    return all([span_left(least, t) >= span_left(other_least, t) for t in range(len(other))])


def least_more(machine, many, t):
    """Return the least modulus of a lane more by which machine does for t and many.

    It is None if none up to MAX_MORE does, or if machine has MAX_LANES lanes.
    """
    lane_count = len(machine) + 1
    if lane_count > MAX_LANES or lane_count < t:
        return None
    spans, left = spans_by_count(machine), max(0, lane_count - 2 * t)
    # The further lane may be among those left out.
    if left < lane_count and spans[left][0] < many:
        return None
    narrow = [span for span in spans[max(0, left - 1)] if span < many]
    for modulus in range(2, MAX_MORE + 1):
        if all([lcm(span, modulus) >= many for span in narrow]):
            return modulus
    return None
