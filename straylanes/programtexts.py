"""The texts of programs."""

from straylanes.errors import BadText
from straylanes.programs import program_error
from straylanes.texts import parts_of, read_integer

BETWEEN_STEPS = "; "


def program_text(program):
    """Return the text of program."""
    return BETWEEN_STEPS.join([step_text(step) for step in program])


def step_text(step):
    """Return the text of step."""
    return " ".join([str(item) for item in step])


def read_program(value):
    """Return the program of which value, any value, is the text; raise BadText() if there is none."""
    program = tuple([read_items(part) for part in parts_of(value, BETWEEN_STEPS)])
    if program_error(program) is not None:
        raise BadText()
    return program


def read_items(text):
    """Return the tuple of a word and integers that text tells, which need be no step."""
    word, *numbers = parts_of(text, " ")
    return (word, *[read_integer(number) for number in numbers])
