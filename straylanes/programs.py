"""Programs, their inputs, and what they come to when they are run plainly."""

from straylanes.bounds import MAX_HULL, MAX_STEPS
from straylanes.integers import is_whole
from straylanes.steps import given_integers, hull_of, is_step, reckoned


def program_error(value):
    """Return None for a program, otherwise the first thing that is wrong with value."""
    if not isinstance(value, tuple) or not 1 <= len(value) <= MAX_STEPS:
        return "form"
    for place, step in enumerate(value):
        if not is_step(step, place):
            return ("step", place)
    ahead = []
    for place, step in enumerate(value):
        low, high = hull_of(step, ahead)
        if low < -MAX_HULL or high > MAX_HULL:
            return ("great", place)
        ahead.append((low, high))
    return None


def inputs_error(program, value):
    """Return None for inputs of program, otherwise the first thing that is wrong with value."""
    stretches = [step[1:] for step in program if step[0] == "in"]
    if not isinstance(value, tuple) or len(value) != len(stretches):
        return "form"
    if not all([is_whole(item) for item in value]):
        return "form"
    for place, (low, high) in enumerate(stretches):
        if not low <= value[place] <= high:
            return ("input", place)
    return None


def run(program, inputs):
    """Return the tuple of the values of all steps."""
    values = []
    for step, given in zip(program, given_integers(program, inputs)):
        values.append(reckoned(step, values) if given is None else given)
    return tuple(values)


def result(program, inputs):
    """Return the value of the last step."""
    return run(program, inputs)[-1]


def hulls(program):
    """Return the tuple of the hulls of all steps."""
    ahead = []
    for step in program:
        ahead.append(hull_of(step, ahead))
    return tuple(ahead)
