"""What a word tells: the numbers of a stretch from which few enough of its lanes stray."""

from straylanes.bounds import MAX_TOLD
from straylanes.errors import Strayed, TooMany, Unsure
from straylanes.lanes import picks, speaking
from straylanes.machines import rests_of
from straylanes.rows import AgreeingRows, narrowed


def candidates(machine, word, stretch, book):
    """Return the ascending tuple of the candidates; raise TooMany(MAX_TOLD) if there are more."""
    found = {}
    for first, step, many in candidate_rows(machine, word, stretch, book):
        # One more than may be told is enough to see that there are too many.
        for turn in range(min(many, MAX_TOLD + 1)):
            found[first + turn * step] = True
        if len(found) > MAX_TOLD:
            raise TooMany(MAX_TOLD)
    return tuple(sorted(found))


def tell(machine, word, stretch, book):
    """Return the candidate, if there is just one.

    Strayed() is raised if there is none, Unsure(numbers) with the two least if there are more.
    """
    rows = candidate_rows(machine, word, stretch, book)
    # Each of the two least candidates is among the first two of its row.
    least = sorted({first + turn * step for first, step, many in rows for turn in range(min(many, 2))})[:2]
    if len(least) == 0:
        raise Strayed()
    if len(least) == 2:
        raise Unsure(tuple(least))
    return least[0]


def mended(machine, word, stretch, book):
    """Return the word of what tell tells; raise what it raises."""
    return rests_of(machine, tell(machine, word, stretch, book))


def nearest(machine, word, stretch):
    """Return the least number of lanes that stray from a number of stretch, and the least such number."""
    rows, lanes = AgreeingRows(machine, word, stretch), speaking(word)
    few, found = 0, rows_for(rows, [lanes])
    while not found:
        few += 1
        found = rows_for(rows, picks(lanes, len(lanes) - few))
    return (few, min([first for first, _, _ in found]))


def suspects(machine, word, stretch, book):
    """Return for each lane whether it is silent, strays from all candidates, from none, or from some."""
    found = candidate_rows(machine, word, stretch, book)
    if not found:
        raise Strayed()
    return tuple([suspicion(found, modulus, rest) for modulus, rest in zip(machine, word)])


def suspicion(found, modulus, rest):
    """Return what suspects tells of the lane with this modulus and this rest; found are the rows of the candidates."""
    if rest is None:
        return "silent"
    agrees = strays = False
    for row in found:
        part = narrowed(row, modulus, rest)
        agrees = agrees or part is not None
        strays = strays or part is None or part[2] < row[2]
        if agrees and strays:
            return "open"
    return "agrees" if agrees else "strays"


def candidate_rows(machine, word, stretch, book):
    """Return a list of rows that have all candidates and nothing else."""
    return rows_for(AgreeingRows(machine, word, stretch), lots_kept(word, book))


def rows_for(rows, lots):
    """Return a list of the rows of numbers with which all lanes of one of lots agree, unlike ones alone."""
    found = {}
    for lanes in lots:
        row = rows.row(lanes)
        if row is not None:
            first, step, many = row
            # The step behind a single number says nothing; without it rows that have the same number are alike.
            found[(first, step if many > 1 else 1, many)] = True
    return list(found)


def lots_kept(word, book):
    """Return a list of lots: a number is a candidate if all lanes of one of them agree with it."""
    lanes = speaking(word)
    if isinstance(book, int):
        return picks(lanes, max(0, len(lanes) - book))
    return [tuple([lane for lane in lanes if lane not in lot]) for lot in book]
