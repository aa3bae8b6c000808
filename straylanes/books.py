"""Books, which say what lanes may stray together, and guards of three books."""

from straylanes.bounds import MAX_LOTS
from straylanes.families import NO_LANES, has, mask_of, widened
from straylanes.integers import is_within
from straylanes.lanes import picks


def book_error(machine, value):
    """Return None for a book of machine, otherwise the first thing that is wrong with value."""
    if is_within(value, 0, len(machine)):
        return None
    if not isinstance(value, tuple) or not 1 <= len(value) <= MAX_LOTS:
        return "form"
    for place, item in enumerate(value):
        if not is_lot(machine, item):
            return ("lot", place)
    for place in range(1, len(value)):
        if value[place] <= value[place - 1]:
            return ("order", place)
    return None


def is_lot(machine, value):
    """Tell whether value, any value, is an ascending tuple of lanes of machine."""
    if not isinstance(value, tuple):
        return False
    ahead = -1
    for item in value:
        if not is_within(item, ahead + 1, len(machine) - 1):
            return False
        ahead = item
    return True


def is_let(machine, book, lanes):
    """Tell whether book, of machine, lets lanes stray together."""
    if isinstance(book, int):
        return len(lanes) <= book
    return any([all([lane in lot for lane in lanes]) for lot in book])


def lots_of(machine, book):
    """Return the ascending tuple of the lots that book lets, but for those within greater ones that it lets."""
    lanes = tuple(range(len(machine)))
    if isinstance(book, int):
        return tuple(picks(lanes, min(book, len(lanes))))
    family = widened(len(lanes), NO_LANES, book)
    return tuple([lot for lot in book if not is_within_greater(family, lanes, lot)])


def is_within_greater(family, lanes, lot):
    """Tell whether family, of lots of lanes, has a lot with all of lot and more."""
    # It has all lots within that one, too, so that one lane more is enough to look for.
    return any([has(family, mask_of(lot + (lane,))) for lane in lanes if lane not in lot])


def guard_error(machine, value):
    """Return None for a guard of machine, otherwise the first thing that is wrong with value."""
    if not isinstance(value, tuple) or len(value) != 3:
        return "form"
    for place, item in enumerate(value):
        error = book_error(machine, item)
        if error is not None:
            return (place, error)
    return None
