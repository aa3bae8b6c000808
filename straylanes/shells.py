"""Shells, by which a bench is told what to do in lines of text."""

from straylanes.benches import Bench
from straylanes.books import book_error
from straylanes.errors import BadBook, LaneError, Unfit
from straylanes.machines import stretch_error
from straylanes.programs import inputs_error, result
from straylanes.programtexts import program_text, read_program
from straylanes.shelves import NO_NAMES, is_program, machine_named, program_named
from straylanes.tellings import tell
from straylanes.texts import MAX_FIGURES, integer_of
from straylanes.wordtexts import machine_text, read_machine, read_word

NOT_KNOWN = "what"
# How many integers a step has, by its word.
STEP_INTEGERS = {"in": 2, "is": 1, "sum": 2, "less": 2, "times": 2}


def read_name(text):
    """Return text if it can stand for a name, otherwise None."""
    return None if text == "" or " " in text else text


def read_int(text):
    """Return the integer of which text is the decimal, None if there is none."""
    return integer_of(text, MAX_FIGURES)


def read_ints(text):
    """Return the tuple of the integers that text tells, None if it does not."""
    if text == NO_NAMES:
        return ()
    found = tuple([read_int(part) for part in text.split(",")])
    return None if None in found else found


def read_step(text):
    """Return the tuple of a word of steps and its integers that text tells, None if it does not."""
    word, *parts = text.split(" ")
    found = [read_int(part) for part in parts]
    if word not in STEP_INTEGERS or len(found) != STEP_INTEGERS[word] or None in found:
        return None
    return (word, *found)


def read_text(text):
    """Return text, whatever it is."""
    return text


def version_told(version):
    """Return what a shell says behind an edit."""
    return f"version {version}"


def say_machine(bench, name, text):
    """Keep the machine of text."""
    return version_told(bench.keep(name, read_machine(text)))


def say_program(bench, name, text):
    """Keep the program of text."""
    return version_told(bench.keep(name, read_program(text)))


def say_drop(bench, name):
    """Drop name."""
    return version_told(bench.drop(name))


def say_lane(bench, name, modulus):
    """Put a lane to the machine of name."""
    return version_told(bench.lane_put(name, modulus))


def say_unlane(bench, name, lane):
    """Take a lane from the machine of name."""
    return version_told(bench.lane_taken(name, lane))


def say_step(bench, name, step):
    """Put a step to the program of name."""
    return version_told(bench.step_put(name, step))


def say_unstep(bench, name):
    """Take the last step from the program of name."""
    return version_told(bench.step_taken(name))


def say_undo(bench):
    """Take back the last edit."""
    return version_told(bench.undo())


def say_redo(bench):
    """Do the edit again that was taken back last."""
    return version_told(bench.redo())


def say_names(bench):
    """Tell the names."""
    return " ".join(list(bench)) if len(bench) > 0 else NO_NAMES


def say_show(bench, name):
    """Tell what name has."""
    thing = bench[name]
    return "program " + program_text(thing) if is_program(thing) else "machine " + machine_text(thing)


def say_reach(bench, name, right, seen, still):
    """Tell the reach of the machine of name with three books that are numbers."""
    return str(bench.reach_of(name, (right, seen, still)))


def say_told(bench, name, other, book):
    """Tell whether the results of a program are told whatever so many strayers do."""
    return "yes" if bench.told(name, other, book) else "no"


def say_made(bench):
    """Tell how many answers the bench made."""
    return str(bench.made)


def say_run(bench, name, inputs):
    """Tell the result of the program of name."""
    program = program_named(bench.shelf, name)
    if inputs_error(program, inputs) is not None:
        raise Unfit()
    return str(result(program, inputs))


def say_tell(bench, name, low, high, book, text):
    """Tell of which number the word of text is, as many lanes as book says straying."""
    machine = machine_named(bench.shelf, name)
    word = read_word(machine, text)
    if stretch_error((low, high)) is not None:
        raise Unfit()
    error = book_error(machine, book)
    if error is not None:
        raise BadBook(error)
    return str(tell(machine, word, (low, high), book))


# What is done at lines of one word alone.
WHOLE_LINES = {"undo": say_undo, "redo": say_redo, "names": say_names, "made": say_made}
# What is done at other lines, by their first word, and by what each part behind it is read.
LINES = {
    "machine": (say_machine, read_name, read_text),
    "program": (say_program, read_name, read_text),
    "drop": (say_drop, read_name),
    "lane": (say_lane, read_name, read_int),
    "unlane": (say_unlane, read_name, read_int),
    "step": (say_step, read_name, read_step),
    "unstep": (say_unstep, read_name),
    "show": (say_show, read_name),
    "reach": (say_reach, read_name, read_int, read_int, read_int),
    "told": (say_told, read_name, read_name, read_int),
    "run": (say_run, read_name, read_ints),
    "tell": (say_tell, read_name, read_int, read_int, read_int, read_text),
}


class Shell:
    """A bench of its own, and what is said to each line."""

    def __init__(self):
        self._bench = Bench()

    def say(self, line):
        """Do what line, any value, tells; return what is said to it."""
        if not isinstance(line, str):
            return NOT_KNOWN
        try:
            return said(self._bench, line)
        except LaneError as error:
            return "error " + type(error).__name__


def said(bench, line):
    """Return what is said to line; the bench and what is asked may raise errors."""
    if line in WHOLE_LINES:
        action = WHOLE_LINES[line]
        return action(bench)
    word, _, behind = line.partition(" ")
    if word not in LINES:
        return NOT_KNOWN
    form = LINES[word]
    action, readers = form[0], form[1:]
    values = read_parts(readers, behind)
    return NOT_KNOWN if values is None else action(bench, *values)


def read_parts(readers, text):
    """Return the list of what readers make of the parts of text, None if one of them makes nothing of its part."""
    # The last reader gets all that is left, blanks too.
    parts = text.split(" ", len(readers) - 1)
    if len(parts) != len(readers):
        return None
    values = []
    for read, part in zip(readers, parts):
        value = read(part)
        if value is None:
            return None
        values.append(value)
    return values
