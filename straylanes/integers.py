"""Which values are integers, and which are within bounds."""

from straylanes.bounds import MAX_NUMBER


def is_whole(value):
    """Tell whether value, any value, is an integer."""
    # Python counts True and False as ints; the document does not.
    return isinstance(value, int) and not isinstance(value, bool)


def is_within(value, low, high):
    """Tell whether value, any value, is an integer from low to high."""
    return is_whole(value) and low <= value <= high


def is_number(value):
    """Tell whether value, any value, is a number."""
    return is_within(value, -MAX_NUMBER, MAX_NUMBER)
