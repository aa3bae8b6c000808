"""What all texts are made of: parts with the same signs between any two, and integers in decimal."""

from straylanes.errors import BadText

# No number has more figures than MAX_NUMBER has; Python itself refuses to read thousands of them.
MAX_FIGURES = 61


def parts_of(value, between):
    """Return what stands in value, any value, around each between; raise BadText() if it is no string."""
    if not isinstance(value, str):
        raise BadText()
    return value.split(between)


def read_integer(text):
    """Return the integer of which text is the decimal; raise BadText() if it is none, or has too many figures."""
    integer = integer_of(text, MAX_FIGURES)
    if integer is None:
        raise BadText()
    return integer


def integer_of(text, most):
    """Return the integer of which text is the decimal, None if it is none, or has more than most figures."""
    figures = text.removeprefix("-")
    # isdigit alone would take figures of other scripts.
    if len(figures) > most or not (figures.isascii() and figures.isdigit()):
        return None
    integer = int(text)
    # Noughts ahead of other figures, and "-0", are not written for any integer.
    return integer if str(integer) == text else None
