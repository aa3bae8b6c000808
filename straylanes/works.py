"""Works: programs run in stages, each fed with what is told of the stages ahead."""

from straylanes.bounds import MAX_STAGES
from straylanes.errors import Unfit
from straylanes.integers import is_whole, is_within
from straylanes.machines import stretch_error
from straylanes.programs import inputs_error, program_error, result
from straylanes.runs import strayed_words
from straylanes.tellings import tell


def work_error(value):
    """Return None for a work, otherwise the first thing that is wrong with value."""
    if not isinstance(value, tuple) or not 1 <= len(value) <= MAX_STAGES:
        return "form"
    for place, item in enumerate(value):
        if not is_stage(item, place):
            return ("stage", place)
    ahead = []
    for place, (program, feeds, (low, high)) in enumerate(value):
        inputs = fed_inputs(feeds, ahead)
        if inputs_error(program, inputs) is not None:
            return ("feed", place)
        ahead.append(result(program, inputs))
        if not low <= ahead[-1] <= high:
            return ("out", place)
    return None


def is_stage(value, place):
    """Tell whether value, any value, is a stage at place."""
    if not isinstance(value, tuple) or len(value) != 3:
        return False
    program, feeds, stretch = value
    if program_error(program) is not None or not isinstance(feeds, tuple) or stretch_error(stretch) is not None:
        return False
    wanted = [step for step in program if step[0] == "in"]
    return len(feeds) == len(wanted) and all([is_feed(feed, place) for feed in feeds])


def is_feed(value, place):
    """Tell whether value, any value, feeds a stage at place."""
    if not isinstance(value, tuple) or len(value) != 2:
        return False
    word, told = value
    if word == "value":
        return is_whole(told)
    return word == "stage" and is_within(told, 0, place - 1)


def fed_inputs(feeds, ahead):
    """Return the inputs that feeds tells, ahead being what was told of the stages ahead."""
    return tuple([told if word == "value" else ahead[told] for word, told in feeds])


def work_results(work):
    """Return the tuple of the results of work, run plainly."""
    ahead = []
    for program, feeds, _ in work:
        ahead.append(result(program, fed_inputs(feeds, ahead)))
    return tuple(ahead)


def work_told(machine, work, strays, book):
    """Return the tuple of what is told of each stage of work, run in lanes of which some stray.

    Unfit() is raised if a stage does not take what was told ahead, Strayed() or Unsure(numbers) as tell does.
    """
    ahead = []
    for (program, feeds, stretch), astray in zip(work, strays):
        inputs = fed_inputs(feeds, ahead)
        if inputs_error(program, inputs) is not None:
            raise Unfit()
        word = strayed_words(machine, program, inputs, astray)[-1]
        ahead.append(tell(machine, word, stretch, book))
    return tuple(ahead)
