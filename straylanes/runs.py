"""Programs run in the lanes of a machine, some of which stray."""

from straylanes.integers import is_within
from straylanes.steps import given_integers, reckoned


def lane_words(machine, program, inputs):
    """Return the tuple of the words that the lanes put out, one for each step."""
    return strayed_words(machine, program, inputs, ())


def strayed_words(machine, program, inputs, strays):
    """Return the tuple of the words that the lanes put out, one for each step, if strays stray."""
    given = given_integers(program, inputs)
    lanes = []
    for lane, modulus in enumerate(machine):
        forced = {step: rest for strayer, step, rest in strays if strayer == lane}
        lanes.append(lane_rests(modulus, program, given, forced))
    return tuple(zip(*lanes))


def lane_rests(modulus, program, given, forced):
    """Return what one lane puts out at each step: forced says what, by place, where it strays."""
    rests = []
    for place, step in enumerate(program):
        if place in forced:
            rests.append(forced[place])
        elif given[place] is None:
            rests.append(reckoned(step, rests) % modulus)
        else:
            rests.append(given[place] % modulus)
    return rests


def strays_error(machine, program, value):
    """Return None for strays of machine and program, otherwise the first thing that is wrong with value."""
    if not isinstance(value, tuple):
        return "form"
    for place, item in enumerate(value):
        if not is_stray(machine, program, item):
            return ("stray", place)
    for place in range(1, len(value)):
        if value[place][:2] <= value[place - 1][:2]:
            return ("order", place)
    return None


def is_stray(machine, program, value):
    """Tell whether value, any value, is a triple of a lane, a step and a rest."""
    if not isinstance(value, tuple) or len(value) != 3:
        return False
    lane, step, rest = value
    if not is_within(lane, 0, len(machine) - 1) or not is_within(step, 0, len(program) - 1):
        return False
    return is_within(rest, 0, machine[lane] - 1)


def strayers(strays):
    """Return the lanes, ascending, that stand in strays."""
    return tuple(sorted({stray[0] for stray in strays}))
