"""The texts of machines and words."""

from straylanes.errors import BadText
from straylanes.machines import machine_error, word_error
from straylanes.texts import parts_of, read_integer

SILENT = "-"


def machine_text(machine):
    """Return the text of machine."""
    return " ".join([str(modulus) for modulus in machine])


def read_machine(value):
    """Return the machine of which value, any value, is the text; raise BadText() if there is none."""
    machine = tuple([read_integer(part) for part in parts_of(value, " ")])
    if machine_error(machine) is not None:
        raise BadText()
    return machine


def word_text(word):
    """Return the text of word."""
    return " ".join([SILENT if item is None else str(item) for item in word])


def read_word(machine, value):
    """Return the word of machine of which value, any value, is the text; raise BadText() if there is none."""
    word = tuple([None if part == SILENT else read_integer(part) for part in parts_of(value, " ")])
    if word_error(machine, word) is not None:
        raise BadText()
    return word
