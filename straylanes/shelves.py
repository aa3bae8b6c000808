"""Shelves: ascending tuples of pairs of a name and a thing, and the edits that make a shelf of another one.

An edit tuple is the word of an edit ahead of its arguments; each edit raises its errors in the order of the document.
"""

from straylanes.bounds import BATCH, MAX_NAME, MAX_NAMES
from straylanes.errors import BadBatch, BadMachine, BadProgram, LaneError, NoName, Rejected, Taken, TooMany, Unfit
from straylanes.integers import is_within
from straylanes.machines import machine_error
from straylanes.programs import program_error

LETTERS = "abcdefghijklmnopqrstuvwxyz"
# What a shell says where there is no name, so that no thing is called so.
NO_NAMES = "none"


def is_name(value):
    """Tell whether value, any value, is a name."""
    if not isinstance(value, str) or not 1 <= len(value) <= MAX_NAME or value == NO_NAMES:
        return False
    return all([sign in LETTERS for sign in value])


def is_program(thing):
    """Tell whether thing, a machine or a program, is a program."""
    return isinstance(thing[0], tuple)


def thing_named(shelf, name):
    """Return the thing of name, any value; raise NoName(name) if shelf does not have it."""
    for told, thing in shelf:
        if told == name:
            return thing
    raise NoName(name)


def machine_named(shelf, name):
    """Return the machine of name, any value; raise NoName(name), or Unfit() if the name has a program."""
    thing = thing_named(shelf, name)
    if is_program(thing):
        raise Unfit()
    return thing


def program_named(shelf, name):
    """Return the program of name, any value; raise NoName(name), or Unfit() if the name has a machine."""
    thing = thing_named(shelf, name)
    if not is_program(thing):
        raise Unfit()
    return thing


def check_thing(value):
    """Raise BadMachine(error) or BadProgram(error) if value, any value, is no thing."""
    if isinstance(value, tuple) and len(value) > 0 and is_program(value):
        check_program(value)
    else:
        check_machine(value)


def check_machine(value):
    """Raise BadMachine(error) if value, any value, is no machine."""
    error = machine_error(value)
    if error is not None:
        raise BadMachine(error)


def check_program(value):
    """Raise BadProgram(error) if value, any value, is no program."""
    error = program_error(value)
    if error is not None:
        raise BadProgram(error)


def exchanged(shelf, name, thing):
    """Return shelf with thing as the thing of name, which it has."""
    return tuple([(told, thing if told == name else other) for told, other in shelf])


def kept(shelf, name, thing):
    """Return shelf with name, which gets thing."""
    if not is_name(name):
        raise Unfit()
    check_thing(thing)
    if name in [told for told, _ in shelf]:
        raise Taken(name)
    if len(shelf) >= MAX_NAMES:
        raise TooMany(MAX_NAMES)
    return tuple(sorted(shelf + ((name, thing),)))


def dropped(shelf, name):
    """Return shelf without name."""
    # This raises what there is to raise.
    thing_named(shelf, name)
    return tuple([pair for pair in shelf if pair[0] != name])


def lane_put(shelf, name, modulus):
    """Return shelf with a lane more behind all others of the machine of name."""
    machine = machine_named(shelf, name) + (modulus,)
    check_machine(machine)
    return exchanged(shelf, name, machine)


def lane_taken(shelf, name, lane):
    """Return shelf without this lane of the machine of name."""
    machine = machine_named(shelf, name)
    if not is_within(lane, 0, len(machine) - 1):
        raise Unfit()
    machine = machine[:lane] + machine[lane + 1:]
    check_machine(machine)
    return exchanged(shelf, name, machine)


def step_put(shelf, name, step):
    """Return shelf with a step more at the end of the program of name."""
    program = program_named(shelf, name) + (step,)
    check_program(program)
    return exchanged(shelf, name, program)


def step_taken(shelf, name):
    """Return shelf without the last step of the program of name."""
    program = program_named(shelf, name)[:-1]
    check_program(program)
    return exchanged(shelf, name, program)


# What each edit but a batch makes of a shelf, by its word.
PARTS = {"keep": kept, "drop": dropped, "lane_put": lane_put, "lane_taken": lane_taken, "step_put": step_put,
         "step_taken": step_taken}
# How many arguments an edit has, by its word.
ARGUMENTS = {"keep": 2, "drop": 1, "lane_put": 2, "lane_taken": 2, "step_put": 2, "step_taken": 1, "batch": 1}


def is_edit(value):
    """Tell whether value, any value, is an edit tuple."""
    if not isinstance(value, tuple) or len(value) == 0:
        return False
    word = value[0]
    return isinstance(word, str) and word in ARGUMENTS and len(value) == 1 + ARGUMENTS[word]


def batched(shelf, edits):
    """Return shelf behind edits, any value, one behind another; raise BadBatch(), or Rejected(index) if one fails."""
    if not isinstance(edits, tuple) or len(edits) > BATCH:
        raise BadBatch()
    if not all([is_edit(edit) and edit[0] in PARTS for edit in edits]):
        raise BadBatch()
    for index, edit in enumerate(edits):
        try:
            shelf = edited(shelf, edit)
        except LaneError:
            raise Rejected(index) from None
    return shelf


def edited(shelf, edit):
    """Return what edit, an edit tuple, makes of shelf."""
    word, *told = edit
    if word == "batch":
        return batched(shelf, *told)
    action = PARTS[word]
    return action(shelf, *told)
