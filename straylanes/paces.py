"""Stops in a long reckoning: at which steps of a chain the value is told, so that all lanes are set right."""

from straylanes.errors import NoPlan
from straylanes.guards import least_spans, strength_by
from straylanes.integers import is_within


def stops(machine, chain, w):
    """Return a right row of as few stops as can be; raise NoPlan() if there is none."""
    strengths, last = strengths_of(machine, chain), len(chain) - 1
    row, ahead = [], -1
    while ahead < last:
        # Whatever follows an earlier place may as well follow a later one, so the last place is as good as any.
        far = [place for place in range(ahead + 1, last + 1) if strengths[place] >= astray_within(place - ahead, w)]
        if not far:
            raise NoPlan()
        ahead = far[-1]
        row.append(ahead)
    return tuple(row)


def fewest(machine, chain, w):
    """Return how many stops a right row has at the least; raise NoPlan() if there is none."""
    return len(stops(machine, chain, w))


def stops_hold(machine, chain, w, value):
    """Tell whether value, any value, is a right row of stops."""
    if not isinstance(value, tuple):
        return False
    strengths, last = strengths_of(machine, chain), len(chain) - 1
    ahead = -1
    for place in value:
        if not is_within(place, ahead + 1, last) or strengths[place] < astray_within(place - ahead, w):
            return False
        ahead = place
    return ahead == last


def strengths_of(machine, chain):
    """Return the list of the strength of machine for each item of chain."""
    least = least_spans(machine)
    return [strength_by(least, many) for many in chain]


def astray_within(steps, w):
    """Return how many lanes at most begin to stray in so many steps, one at most in any w steps."""
    return (steps + w - 1) // w
