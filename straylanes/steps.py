"""Steps of programs: what they are, what they are given, what they reckon, where their values lie."""

from straylanes.integers import is_number, is_within
from straylanes.machines import stretch_error

RECKONING = ("sum", "less", "times")


def is_step(value, place):
    """Tell whether value, any value, is a step at place."""
    if not isinstance(value, tuple) or len(value) == 0:
        return False
    word, told = value[0], value[1:]
    if word == "in":
        return stretch_error(told) is None
    if word == "is":
        return len(told) == 1 and is_number(told[0])
    return word in RECKONING and len(told) == 2 and all([is_within(at, 0, place - 1) for at in told])


def hull_of(step, ahead):
    """Return the hull of step, ahead being the hulls of the steps ahead of it."""
    if step[0] == "in":
        return step[1:]
    if step[0] == "is":
        return (step[1], step[1])
    (a, b), (c, d) = ahead[step[1]], ahead[step[2]]
    if step[0] == "sum":
        return (a + c, b + d)
    if step[0] == "less":
        return (a - d, b - c)
    ends = (a * c, a * d, b * c, b * d)
    return (min(ends), max(ends))


def given_integers(program, inputs):
    """Return a list with the input or the number of each step, None for a step that reckons."""
    given, used = [], 0
    for step in program:
        if step[0] == "in":
            given.append(inputs[used])
            used += 1
        elif step[0] == "is":
            given.append(step[1])
        else:
            given.append(None)
    return given


def reckoned(step, ahead):
    """Return what a step that reckons makes of ahead, what the steps ahead of it put out."""
    word, j, k = step
    if word == "sum":
        return ahead[j] + ahead[k]
    if word == "less":
        return ahead[j] - ahead[k]
    return ahead[j] * ahead[k]


def reckoned_column(step, one, other):
    """Return the list of what a step that reckons makes of each two that stand at one place of one and other."""
    if step[0] == "sum":
        return [a + b for a, b in zip(one, other)]
    if step[0] == "less":
        return [a - b for a, b in zip(one, other)]
    return [a * b for a, b in zip(one, other)]
