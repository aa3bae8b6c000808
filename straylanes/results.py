"""What one program's own results allow: whether they are told apart, or two runs that are mixed up."""

from straylanes.allinputs import inputs_within, result_column
from straylanes.books import is_let
from straylanes.bounds import MAX_INPUTS
from straylanes.families import NO_LANES, greatest_masks, lanes_of, mask_of, part_of, widened
from straylanes.guards import spans_outside
from straylanes.programs import inputs_error, result
from straylanes.runs import strayed_words, strayers, strays_error
from straylanes.spans import same_lanes


def results(program):
    """Return the ascending tuple of all results; raise TooMany(MAX_INPUTS) if there are more tuples of inputs."""
    column = result_column(program, inputs_within(program, MAX_INPUTS))
    return tuple(sorted(set(column)))


def told_for_all(machine, program, book):
    """Tell whether no two runs are mixed up; raise TooMany(MAX_INPUTS) if there are more tuples of inputs."""
    return mixed_results(machine, results(program), book) is None


def mixed_runs(machine, program, book):
    """Return a paper of two runs that are mixed up, None if there is none.

    TooMany(MAX_INPUTS) is raised if there are more tuples of inputs.
    """
    rows = inputs_within(program, MAX_INPUTS)
    column = result_column(program, rows)
    pair = mixed_results(machine, sorted(set(column)), book)
    if pair is None:
        return None
    one, other = pair
    same = same_lanes(machine, one, other)
    unlike = mask_of([lane for lane in range(len(machine)) if lane not in same])
    family = widened(len(machine), NO_LANES, book)
    part = part_of(unlike, family, family)
    return ((rows[column.index(one)], last_strays(machine, program, lanes_of(part), other)),
            (rows[column.index(other)], last_strays(machine, program, lanes_of(unlike ^ part), one)))


def last_strays(machine, program, lanes, number):
    """Return the strays by which lanes put out, at the last step, the rests of number."""
    return tuple([(lane, len(program) - 1, number % machine[lane]) for lane in lanes])


def mixed_results(machine, values, book):
    """Return two of values, ascending ones, with one rest in each lane outside two lots; None if there are none."""
    for span in spans_left(machine, book):
        # This span and all behind it are too great to divide a difference.
        if span > values[-1] - values[0]:
            return None
        pair = alike_pair(values, span)
        if pair is not None:
            return pair
    return None


def spans_left(machine, book):
    """Return the ascending list of the spans of the lanes outside two lots that book lets.

    Those of lots that could be greater are left out: what divides no difference by less lanes does so by none more.
    """
    lane_count = len(machine)
    by_one = widened(lane_count, NO_LANES, book)
    by_two = widened(lane_count, by_one, book)
    spans = spans_outside(machine)
    return sorted({spans[mask] for mask in greatest_masks(lane_count, by_two)})


def alike_pair(values, span):
    """Return two of values, each of them unlike, with one rest by span, None if there are none."""
    known = {}
    for value in values:
        rest = value % span
        if rest in known:
            return (known[rest], value)
        known[rest] = value
    return None


def mixed_runs_hold(machine, program, book, value):
    """Tell whether value, any value, is a paper of two runs that are mixed up."""
    if not isinstance(value, tuple) or len(value) != 2:
        return False
    if not all([is_let_run(machine, program, book, item) for item in value]):
        return False
    one, other = value
    if result(program, one[0]) == result(program, other[0]):
        return False
    return strayed_words(machine, program, *one)[-1] == strayed_words(machine, program, *other)[-1]


def is_let_run(machine, program, book, value):
    """Tell whether value, any value, is a pair of inputs and of strays the strayers of which book lets."""
    if not isinstance(value, tuple) or len(value) != 2:
        return False
    inputs, strays = value
    if inputs_error(program, inputs) is not None or strays_error(machine, program, strays) is not None:
        return False
    return is_let(machine, book, strayers(strays))
