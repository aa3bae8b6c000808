"""Ledgers: several runs with the same strayers, and what is sure of them together."""

from straylanes.books import lots_of
from straylanes.bounds import MAX_RUNS
from straylanes.errors import NoLot
from straylanes.lanes import speaking
from straylanes.machines import stretch_error, word_error
from straylanes.rows import AgreeingRows, narrowed


def ledger_error(machine, value):
    """Return None for a ledger of machine, otherwise the first thing that is wrong with value."""
    if not isinstance(value, tuple) or not 1 <= len(value) <= MAX_RUNS:
        return "form"
    for place, item in enumerate(value):
        if not is_ledger_run(machine, item):
            return ("run", place)
    return None


def is_ledger_run(machine, value):
    """Tell whether value, any value, is a pair of a word of machine and a stretch."""
    if not isinstance(value, tuple) or len(value) != 2:
        return False
    word, stretch = value
    return word_error(machine, word) is None and stretch_error(stretch) is None


def fitting_lots(machine, ledger, book):
    """Return the tuple of the lots that fit, in the order of lots_of."""
    return tuple([lot for lot, _ in fits_of(machine, ledger, book)])


def fits_of(machine, ledger, book):
    """Return a list of pairs: a lot that fits, and the rows, one for each run, of the numbers that it lets there."""
    finders = [AgreeingRows(machine, word, stretch) for word, stretch in ledger]
    spoken = [speaking(word) for word, _ in ledger]
    fits = []
    for lot in lots_of(machine, book):
        rows = rows_let(finders, spoken, lot)
        if rows is not None:
            fits.append((lot, rows))
    return fits


def rows_let(finders, spoken, lot):
    """Return the list of the rows of the numbers that lot lets in each run, None if a run has none."""
    rows = []
    for finder, lanes in zip(finders, spoken):
        row = finder.row(tuple([lane for lane in lanes if lane not in lot]))
        if row is None:
            return None
        rows.append(row)
    return rows


def sure_fits(machine, ledger, book):
    """Return what fits_of tells; raise NoLot() if no lot fits."""
    fits = fits_of(machine, ledger, book)
    if not fits:
        raise NoLot()
    return fits


def sure_numbers(machine, ledger, book):
    """Return for each run the number that each account has there, None if some have unlike ones.

    NoLot() is raised if no lot fits.
    """
    fits = sure_fits(machine, ledger, book)
    return tuple([one_number([rows[place] for _, rows in fits]) for place in range(len(ledger))])


def one_number(rows):
    """Return the number that rows, at least one, have all alone, None if there are more."""
    first = rows[0][0]
    return first if all([row[0] == first and row[2] == 1 for row in rows]) else None


def sure_strayers(machine, ledger, book):
    """Return the lanes that stray in each account; raise NoLot() if no lot fits."""
    fits = sure_fits(machine, ledger, book)
    return tuple([lane for lane in range(len(machine))
                  if all([lane in lot and must_stray(machine, ledger, rows, lane) for lot, rows in fits])])


def must_stray(machine, ledger, rows, lane):
    """Tell whether lane strays, in some run, from all numbers of the run's row."""
    # Numbers of unlike runs are chosen freely, so one run has to bar all of its own.
    return any([agreed_many(machine, word, row, lane) == 0 for (word, _), row in zip(ledger, rows)])


def sure_sound(machine, ledger, book):
    """Return the lanes that stray in no account, in no run; raise NoLot() if no lot fits."""
    fits = sure_fits(machine, ledger, book)
    return tuple([lane for lane in range(len(machine))
                  if all([lane not in lot or cannot_stray(machine, ledger, rows, lane) for lot, rows in fits])])


def cannot_stray(machine, ledger, rows, lane):
    """Tell whether lane strays, in no run, from a number of the run's row."""
    return all([agreed_many(machine, word, row, lane) == row[2] for (word, _), row in zip(ledger, rows)])


def agreed_many(machine, word, row, lane):
    """Return how many numbers of row lane does not stray from."""
    if word[lane] is None:
        return row[2]
    part = narrowed(row, machine[lane], word[lane])
    return 0 if part is None else part[2]
