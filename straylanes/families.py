"""Families of lots of lanes, as integers.

The mask of a lot has the bit 1 << lane for each of its lanes, and a family has the bit 1 << mask for each of its lots.
So one shift puts a lane to all lots of a family, and books of many lots are gone through quickly. A family that has
a lot has all lots within it, too.
"""

# The family that has no lot but ().
NO_LANES = 1


def mask_of(lanes):
    """Return the mask of lanes."""
    return sum([1 << lane for lane in lanes])


def lanes_of(mask):
    """Return the lanes, ascending, of which mask is the mask."""
    return tuple([lane for lane in range(mask.bit_length()) if has(mask, lane)])


def has(bits, place):
    """Tell whether a family has the lot with the mask place, or a mask the lane place."""
    return (bits >> place) & 1 == 1


def masks_in(family):
    """Return the list of the masks of the lots of family."""
    return [mask for mask in range(family.bit_length()) if has(family, mask)]


def part_of(mask, others, parts):
    """Return the mask of a lot of the family parts within mask that leaves a lot of the family others."""
    return [part for part in masks_in(parts) if part & mask == part and has(others, mask ^ part)][0]


def greatest_masks(lane_count, family):
    """Return the list of the masks of the lots of family that lie within no greater one of it."""
    within = 0
    for lane, without in enumerate(lots_without(lane_count)):
        # What the lane is taken from stands 1 << lane below what has it.
        within = within | ((family >> (1 << lane)) & without)
    return masks_in(family & ~within)


def widened(lane_count, family, book):
    """Return the family of what a lot of family and a lot that book lets have together, of so many lanes."""
    free = lots_without(lane_count)
    if isinstance(book, int):
        for _ in range(min(book, lane_count)):
            family = with_a_lane(family, free)
        return family
    found = 0
    for lot in book:
        found = found | with_lanes(family, lot, free)
    return found


def lots_without(lane_count):
    """Return the list, for each lane, of the family of all lots without it."""
    every = (1 << (1 << lane_count)) - 1
    # Their bits stand in runs of 1 << lane, with gaps as long: every number of such runs is a multiple of one more.
    return [every // ((1 << (1 << lane)) + 1) for lane in range(lane_count)]


def with_lanes(family, lanes, free):
    """Return family with the lots, too, that some of lanes come to; free is what lots_without tells."""
    for lane in lanes:
        family = family | (family & free[lane]) << (1 << lane)
    return family


def with_a_lane(family, free):
    """Return family with the lots, too, that any one lane comes to; free is what lots_without tells."""
    found = family
    for lane in range(len(free)):
        found = found | with_lanes(family, (lane,), free)
    return found
