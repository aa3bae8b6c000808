"""What a machine bears: how many numbers are told apart, whatever lanes a guard lets stray and be silent."""

from math import lcm

from straylanes.families import NO_LANES, lanes_of, masks_in, part_of, widened


def reach(machine, guard):
    """Return the least span of the lanes outside of a choice for guard."""
    spans = spans_outside(machine)
    _, _, lost = lost_families(machine, guard)
    return min([spans[mask] for mask in masks_in(lost)])


def bears(machine, many, guard):
    """Tell whether machine bears many numbers with guard."""
    return reach(machine, guard) >= many


def weakest(machine, guard):
    """Return a choice for guard outside of which the lanes have the least span."""
    _, seen, still = guard
    lane_count = len(machine)
    spans = spans_outside(machine)
    by_one, by_two, by_three = lost_families(machine, guard)
    lost = min(masks_in(by_three), key=lambda mask: spans[mask])
    third = part_of(lost, by_two, widened(lane_count, NO_LANES, still))
    strayed = lost ^ third
    other = part_of(strayed, by_one, by_one | widened(lane_count, NO_LANES, seen))
    return (lanes_of(strayed ^ other), lanes_of(other), lanes_of(third))


def strength(machine, many):
    """Return the greatest t for which machine bears many numbers with the guard (t, t, 0), -1 if there is none."""
    return strength_by(least_spans(machine), many)


def strength_by(least, many):
    """Return what strength tells of the machine of which least is what least_spans tells."""
    return max([t for t in range(len(least)) if span_left(least, t) >= many], default=-1)


def span_left(least, t):
    """Return the least span of the lanes of which least is what least_spans tells, any 2 * t of them left out."""
    return least[max(0, len(least) - 1 - 2 * t)]


def lost_families(machine, guard):
    """Return three families: what the first lot of a choice takes away, the first two, and all three."""
    right, seen, still = guard
    lane_count = len(machine)
    by_one = widened(lane_count, NO_LANES, right)
    by_two = widened(lane_count, by_one, right) | widened(lane_count, by_one, seen)
    return (by_one, by_two, widened(lane_count, by_two, still))


def spans_outside(machine):
    """Return the list, at the place of each mask, of the span of the lanes that it does not have."""
    spans = [1]
    for modulus in machine:
        spans = [lcm(span, modulus) for span in spans] + spans
    return spans


def least_spans(machine):
    """Return the list, at each place k, of the least span of any k lanes."""
    return [spans[0] for spans in spans_by_count(machine)]


def spans_by_count(machine):
    """Return the list, at each place k, of the ascending list of the unlike spans of any k lanes."""
    found = [[1]]
    for modulus in machine:
        wider = [sorted({lcm(span, modulus) for span in spans}) for spans in found]
        # k lanes with this one are k - 1 lanes ahead of it, and this one.
        found = found[:1] + [sorted(set(with_it + without)) for with_it, without in zip(wider, found[1:] + [[]])]
    return found
