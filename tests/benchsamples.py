"""Benches for the tests, what can be seen of them, and arguments of their methods."""

from straylanes.benches import Bench
from straylanes.errors import LaneError
from tests.samples import of_inputs

RAIL, THREE = (7, 11, 13), (("in", 0, 6), ("is", 3), ("times", 0, 1))
NAMES = ("rail", "three", "a", "zzzzzzzz")
# The arguments of each method, in order.
METHODS = {"keep": ("name", "thing"), "drop": ("name",), "lane_put": ("name", "modulus"), "lane_taken": ("name", "lane"),
           "step_put": ("name", "step"), "step_taken": ("name",), "batch": ("edits",), "reach_of": ("name", "guard"),
           "told": ("name", "other", "book"), "undo": (), "redo": (), "at": ("version",)}
EDITS = ("keep", "drop", "lane_put", "lane_taken", "step_put", "step_taken", "batch")
PROGRAMS = (THREE, (("is", 5),), (("in", 0, 9), ("times", 0, 0)), of_inputs(2001))
NO_BATCHES = ((("batch", ()),), None, [("drop", "a")], (("drop",),), ("drop", "a"))
# Arguments of other kinds, right ones and wrong ones.
OTHERS = {"modulus": (2, 5, 7, 1, None, 10 ** 6), "lane": (0, 1, 2, 5, True, None), "version": (0, 1, 2, 3, 7, 39, True, None),
          "step": (("is", 4), ("sum", 0, 0), ("times", 0, 1), ("sum", 2, 9), ("in", 0, 1), None, ("is", 10 ** 60)),
          "book": (0, 1, 2, 9, True, ((0,),), ((0,), (1,)), ((),), None)}


def bench_with(*edits):
    bench = Bench()
    for word, *told in edits:
        getattr(bench, word)(*told)
    return bench


def rail_and_three():
    return bench_with(("keep", "rail", RAIL), ("keep", "three", THREE))


def state_of(bench):
    """Return all that can be seen of a bench but what it made, what was taken back too."""
    seen = [bench.shelf, bench.version, bench.log, len(bench), list(bench), [bench[name] for name in bench]]
    seen += [bench.at(version) for version in range(bench.version + 1)]
    other = bench.copy()
    while True:
        try:
            other.redo()
        except LaneError:
            return repr((seen, other.shelf, other.log))
        seen.append(other.shelf)


def arguments_by(chance, word, bench):
    """Return arguments of a method of bench, right ones and wrong ones."""
    return tuple(argument_by(chance, word, kind, bench) for kind in METHODS[word])


def argument_by(chance, word, kind, bench):
    if kind == "edits":
        return batch_by(chance, bench)
    if kind == "thing":
        machine = tuple(chance.randint(2, 9) for _ in range(chance.randint(1, 4)))
        return chance.choice((machine, machine, chance.choice(PROGRAMS), chance.choice(PROGRAMS), (7, 1), ((),)))
    if kind == "guard":
        return tuple(chance.choice(OTHERS["book"]) for _ in range(3))
    if kind not in ("name", "other"):
        return chance.choice(OTHERS[kind])
    if word == "keep" and chance.randint(0, 5):
        return chance.choice(NAMES + tuple("bcdefgh"))
    return chance.choice(NAMES + ("none", "x", "", None, 7) if chance.randint(0, 7) == 0 else tuple(bench) or NAMES)


def batch_by(chance, bench):
    if chance.randint(0, 9) == 0:
        return chance.choice(NO_BATCHES)
    words = [chance.choice(EDITS[:-1]) for _ in range(chance.choice((0, 1, 2, 2, 3, 12, 13)))]
    return tuple((part, *arguments_by(chance, part, bench)) for part in words)
