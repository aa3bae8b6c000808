"""Mix-ups: two numbers and one word that show that a machine does not bear a stretch."""

from straylanes.books import is_let
from straylanes.guards import weakest
from straylanes.integers import is_within
from straylanes.lanes import silent
from straylanes.machines import rests_of, straying, word_error
from straylanes.spans import span_of


def mix_up(machine, stretch, guard):
    """Return a mix-up, None if machine bears, with guard, as many numbers as stretch has."""
    low, high = stretch
    one, other, third = weakest(machine, guard)
    lost = one + other + third
    span = span_of(machine, [lane for lane in range(len(machine)) if lane not in lost])
    if low + span > high:
        return None
    word = list(rests_of(machine, low))
    strayed = rests_of(machine, low + span)
    for lane in one:
        word[lane] = strayed[lane]
    # Done last: a lane that is in the first lot, too, has to be silent.
    for lane in third:
        word[lane] = None
    return (low, low + span, tuple(word))


def mix_up_holds(machine, stretch, guard, value):
    """Tell whether value, any value, is a mix-up."""
    if not isinstance(value, tuple) or len(value) != 3:
        return False
    (low, high), (one, other, word) = stretch, value
    if not is_within(one, low, high) or not is_within(other, low, high) or one == other:
        return False
    if word_error(machine, word) is not None:
        return False
    right, seen, still = guard
    strayed = straying(machine, word, other)
    return (is_let(machine, still, silent(word)) and is_let(machine, right, straying(machine, word, one))
            and (is_let(machine, right, strayed) or is_let(machine, seen, strayed)))
