"""Machines of lanes, their words, and stretches of numbers."""

from straylanes.bounds import MAX_LANES, MAX_MODULUS
from straylanes.integers import is_number, is_within


def machine_error(value):
    """Return None for a machine, otherwise the first thing that is wrong with value."""
    if not isinstance(value, tuple) or not 1 <= len(value) <= MAX_LANES:
        return "form"
    for lane, modulus in enumerate(value):
        if not is_within(modulus, 2, MAX_MODULUS):
            return ("modulus", lane)
    return None


def word_error(machine, value):
    """Return None for a word of machine, otherwise the first thing that is wrong with value."""
    if not isinstance(value, tuple) or len(value) != len(machine):
        return "form"
    for lane, item in enumerate(value):
        if item is not None and not is_within(item, 0, machine[lane] - 1):
            return ("rest", lane)
    return None


def stretch_error(value):
    """Return None for a stretch, otherwise the first thing that is wrong with value."""
    if not isinstance(value, tuple) or len(value) != 2:
        return "form"
    low, high = value
    if not is_number(low) or not is_number(high):
        return "form"
    if low > high:
        return "empty"
    return None


def rests_of(machine, number):
    """Return the word of number: its rest in each lane."""
    return tuple([number % modulus for modulus in machine])


def agreeing(machine, word, number):
    """Return the lanes of word that agree with number."""
    rests = rests_of(machine, number)
    return tuple([lane for lane, item in enumerate(word) if item == rests[lane]])


def straying(machine, word, number):
    """Return the lanes of word that stray from number."""
    rests = rests_of(machine, number)
    return tuple([lane for lane, item in enumerate(word) if item is not None and item != rests[lane]])
