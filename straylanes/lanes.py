"""Which lanes of a word speak or are silent, and all lots of as many lanes."""


def speaking(word):
    """Return the lanes of word that speak."""
    return tuple([lane for lane, item in enumerate(word) if item is not None])


def silent(word):
    """Return the lanes of word that are silent."""
    return tuple([lane for lane, item in enumerate(word) if item is None])


def picks(lanes, many):
    """Return the ascending list of all lots of so many of lanes, an ascending tuple."""
    found = [[()]] + [[] for _ in range(many)]
    # From the last lane on, so that each lane stands ahead of what is there, and makes the least lots.
    for lane in reversed(tuple(lanes)):
        for size in range(many, 0, -1):
            found[size] = [(lane,) + lot for lot in found[size - 1]] + found[size]
    return found[many]
