"""Logs: the texts of edit tuples, and the bench that they make."""

from straylanes.benches import Bench
from straylanes.bounds import MAX_HULL, MAX_NEST
from straylanes.errors import BadLog, LaneError
from straylanes.shelves import LETTERS, is_edit
from straylanes.texts import integer_of

# What MAX_HULL has.
MOST_FIGURES = 121
LONGEST_WORD = 10


def log_text(edits):
    """Return the texts of edits, a tuple of edit tuples, each with a line feed behind it."""
    return "".join([text_of(edit) + "\n" for edit in edits])


def text_of(value):
    """Return the text of value, an integer, a word, or a tuple of such and of tuples."""
    if isinstance(value, tuple):
        return "(" + ",".join([text_of(item) for item in value]) + ")"
    return str(value)


def read_log(value):
    """Return the tuple of the edit tuples of which the lines of value are the texts.

    BadLog(place) is raised with the place of the first line that is the text of none, BadLog(0) if value, any value,
    is no string.
    """
    if not isinstance(value, str):
        raise BadLog(0)
    edits = []
    # What stands behind the last line feed may be cut off, and is no line.
    for place, line in enumerate(value.split("\n")[:-1]):
        found = read_items(line)
        if found is None or len(found) != 1 or not is_edit(found[0]):
            raise BadLog(place)
        edits.append(found[0])
    return tuple(edits)


def read_items(text):
    """Return the list of what stands, with "," between, in text, None if something there is no text."""
    # The lists of the tuples whose brackets are open, ahead of them the one of what stands in no bracket.
    rows = [[]]
    for part in text.split(","):
        inner = part.lstrip("(")
        item = inner.rstrip(")")
        opened, closed = len(part) - len(inner), len(inner) - len(item)
        if len(rows) - 1 + opened > MAX_NEST or len(rows) - 1 + opened < closed:
            return None
        rows = rows + [[] for _ in range(opened)]
        if item != "":
            told = read_item(item)
            if told is None:
                return None
            rows[-1].append(told)
        elif opened == 0 or closed == 0:
            # Nothing at all stands between the brackets of () alone.
            return None
        for _ in range(closed):
            row = tuple(rows.pop())
            rows[-1].append(row)
    return rows[0] if len(rows) == 1 else None


def read_item(text):
    """Return the integer or the word of which text is the text, None if there is none."""
    if len(text) <= LONGEST_WORD and all([sign == "_" or sign in LETTERS for sign in text]):
        return text
    integer = integer_of(text, MOST_FIGURES)
    if integer is None or not -MAX_HULL <= integer <= MAX_HULL:
        return None
    return integer


def bench_behind(edits):
    """Return a new Bench by which edits, a tuple of edit tuples, were done, one behind another.

    BadLog(place) is raised with the place of the first one that raises an error.
    """
    bench = Bench()
    for place, edit in enumerate(edits):
        try:
            bench.do(edit)
        except LaneError:
            raise BadLog(place) from None
    return bench
