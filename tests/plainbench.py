"""A bench by its edits alone: its shelf is made anew from them for each question."""

from straylanes.books import book_error, guard_error
from straylanes.errors import LaneError
from straylanes.guards import reach
from straylanes.machines import machine_error
from straylanes.programs import program_error
from straylanes.results import told_for_all

PARTS = {"keep": 2, "drop": 1, "lane_put": 2, "lane_taken": 2, "step_put": 2, "step_taken": 1}


class Refused(Exception):
    """What a bench has to refuse, as it is written."""


def is_name(value):
    return isinstance(value, str) and 1 <= len(value) <= 8 and value != "none" and \
        all("a" <= sign <= "z" for sign in value)


def is_program(thing):
    return isinstance(thing, tuple) and len(thing) > 0 and isinstance(thing[0], tuple)


def check(error, name):
    if error is not None:
        raise Refused(f"{name}({error!r})")


def find(things, name):
    if not isinstance(name, str) or name not in things:
        raise Refused(f"NoName({name!r})")
    return things[name]


def do(things, edit):
    """Return a new dict of things, behind edit."""
    word, *told = edit
    action = {"keep": do_keep, "drop": do_drop, "batch": do_batch}.get(word, do_change)
    return action(dict(things), word, *told)


def do_keep(things, _, name, thing):
    if not is_name(name):
        raise Refused("Unfit()")
    if is_program(thing):
        check(program_error(thing), "BadProgram")
    else:
        check(machine_error(thing), "BadMachine")
    if name in things:
        raise Refused(f"Taken({name!r})")
    if len(things) == 8:
        raise Refused("TooMany(8)")
    things[name] = thing
    return things


def do_drop(things, _, name):
    find(things, name)
    del things[name]
    return things


def do_change(things, word, name, *told):
    thing = find(things, name)
    if is_program(thing) is not word.startswith("step"):
        raise Refused("Unfit()")
    if word == "lane_taken":
        lane, = told
        if not isinstance(lane, int) or isinstance(lane, bool) or lane not in range(len(thing)):
            raise Refused("Unfit()")
        things[name] = tuple(modulus for at, modulus in enumerate(thing) if at != lane)
    else:
        things[name] = thing[:-1] if word == "step_taken" else thing + told
    if word.startswith("step"):
        check(program_error(things[name]), "BadProgram")
    else:
        check(machine_error(things[name]), "BadMachine")
    return things


def do_batch(things, _, edits):
    if not isinstance(edits, tuple) or len(edits) > 12:
        raise Refused("BadBatch()")
    for edit in edits:
        if not isinstance(edit, tuple) or not edit or not isinstance(edit[0], str) or PARTS.get(edit[0]) != len(edit) - 1:
            raise Refused("BadBatch()")
    for index, edit in enumerate(edits):
        try:
            things = do(things, edit)
        except Refused:
            raise Refused(f"Rejected({index})") from None
    return things


class PlainBench:
    def __init__(self):
        self.edits, self.undone, self.asks = [], [], []

    def things(self, many=None):
        things = {}
        for edit in self.edits[:many]:
            things = do(things, edit)
        return things

    def shelf(self, many=None):
        return tuple(sorted(self.things(many).items()))

    def edit(self, *edit):
        do(self.things(), edit)
        if len(self.edits) == 40:
            raise Refused("TooManyEdits()")
        self.edits.append(edit)
        self.undone.clear()
        return len(self.edits)

    def undo(self):
        if not self.edits:
            raise Refused("NothingToUndo()")
        self.undone.append(self.edits.pop())
        return len(self.edits)

    def redo(self):
        if not self.undone:
            raise Refused("NothingToRedo()")
        self.edits.append(self.undone.pop())
        return len(self.edits)

    def at(self, version):
        if not isinstance(version, int) or isinstance(version, bool) or version not in range(len(self.edits) + 1):
            raise Refused(f"NoVersion({version!r})")
        return self.shelf(version)

    def copy(self):
        other = PlainBench()
        other.edits, other.undone, other.asks = list(self.edits), list(self.undone), list(self.asks)
        return other

    def reach_of(self, name, guard):
        machine = find(self.things(), name)
        if is_program(machine):
            raise Refused("Unfit()")
        check(guard_error(machine, guard), "BadBook")
        return self.made(("reach", machine, guard), reach(machine, guard))

    def told(self, name, other, book):
        machine, program = find(self.things(), name), find(self.things(), other)
        if is_program(machine) or not is_program(program):
            raise Refused("Unfit()")
        check(book_error(machine, book), "BadBook")
        try:
            answer = told_for_all(machine, program, book)
        except LaneError:
            raise Refused("TooMany(2000)") from None
        return self.made(("told", machine, program, book), answer)

    def made(self, ask, answer):
        if ask not in self.asks:
            self.asks.append(ask)
        return answer
