"""Strays at told steps alone: what lanes can put out at the end, and two runs that are mixed up so."""

from straylanes.allinputs import inputs_within
from straylanes.books import lots_of
from straylanes.bounds import MAX_FACES, MAX_MIXED
from straylanes.errors import TooMany
from straylanes.facing import Facing
from straylanes.families import NO_LANES, has, lanes_of, mask_of, widened
from straylanes.programs import result


def faces(machine, program, inputs, lane, units):
    """Return the ascending tuple of the rests that lane can put out at the last step if it strays at units alone.

    TooMany(MAX_FACES) is raised if its modulus, to the power of how many units there are, is more than that.
    """
    check_faces(machine, (lane,), units)
    return tuple(sorted(set(Facing(machine, program, units).column(lane, inputs))))


def check_faces(machine, lanes, units):
    """Raise TooMany(MAX_FACES) if a modulus of lanes, to the power of how many units there are, is more."""
    for lane in lanes:
        many = 1
        for _ in units:
            many = many * machine[lane]
            if many > MAX_FACES:
                raise TooMany(MAX_FACES)


def told_from(machine, program, book, units):
    """Tell whether no two runs are mixed up the strays of which are all at units.

    TooMany(MAX_MIXED) is raised if there are more tuples of inputs, then TooMany(MAX_FACES) if a lane that may
    stray has more faces to go through.
    """
    return meeting_runs(machine, program, book, units) is None


def unit_runs(machine, program, book, units):
    """Return a paper of two runs that are mixed up, with strays at units alone, None if there is none.

    It raises what told_from raises.
    """
    found = meeting_runs(machine, program, book, units)
    if found is None:
        return None
    one, mask, other, other_mask = found
    facing = Facing(machine, program, units)
    return ((one[0], strays_to_meet(facing, one, mask, other, other_mask)),
            (other[0], strays_to_meet(facing, other, other_mask, one, mask)))


def strays_to_meet(facing, one, mask, other, other_mask):
    """Return the strays of the lanes of mask in the run one, so that they end as in the run other.

    There the lanes of other_mask stray.
    """
    strays = []
    for lane in lanes_of(mask):
        if has(other_mask, lane):
            rest = facing.common_face(lane, one[0], other[0])
        else:
            rest = other[1] % facing.machine[lane]
        strays = strays + facing.strays_to(lane, one[0], rest)
    return tuple(strays)


def meeting_runs(machine, program, book, units):
    """Return two runs that can end alike with strays at units, each ahead of the mask of its strayers.

    A run is a pair of inputs and result, and the results are unlike. It is None if there are none; it raises what
    told_from raises.
    """
    rows = inputs_within(program, MAX_MIXED)
    lots = lots_of(machine, book)
    check_faces(machine, sorted({lane for lot in lots for lane in lot}), units)
    # Where there is no unit no lane strays, and great moduli need no faces.
    search = Search(Facing(machine, program, units), lots if units else ((),))
    runs = [(row, result(program, row)) for row in rows]
    for place, one in enumerate(runs):
        for other in runs[:place]:
            found = search.masks(one, other)
            if found is not None:
                mask, other_mask = found
                return (one, mask, other, other_mask)
    return None


class Search:
    """Which lanes can stray so that two runs end alike; lots are the greatest ones that the book lets."""

    def __init__(self, facing, lots):
        self.facing = facing
        self.lots = [mask_of(lot) for lot in lots]
        lane_count = len(facing.machine)
        self.by_one = widened(lane_count, NO_LANES, lots)
        self.by_two = widened(lane_count, self.by_one, lots)

    def masks(self, one, other):
        """Return the masks of strayers of two runs with which both end alike, None if there are none.

        Runs with one result do not count.
        """
        off = one[1] - other[1]
        lanes = [lane for lane, modulus in enumerate(self.facing.machine) if off % modulus != 0]
        # Told by the lots alone, as long as that does: faces take far longer.
        if off == 0 or not has(self.by_two, mask_of(lanes)):
            return None
        wanted = self.wanted(lanes, one, other)
        if wanted is None:
            return None
        first, second, either = wanted
        for lot in self.lots:
            other_mask = second | (either & ~lot)
            if first & ~lot == 0 and has(self.by_one, other_mask):
                return (first | (either & lot), other_mask)
        return None

    def wanted(self, lanes, one, other):
        """Return three masks of lanes, all of which together are lanes, that have to stray so that both runs end alike.

        The lanes of the first mask have to in the run one, those of the second one in the run other, those of the
        third one in either of them. It is None if a lane cannot end alike.
        """
        first = second = either = 0
        for lane in lanes:
            modulus, bit = self.facing.machine[lane], 1 << lane
            faces_one = self.facing.face_bits(lane, one[0])
            faces_other = self.facing.face_bits(lane, other[0])
            to_other, to_one = has(faces_one, other[1] % modulus), has(faces_other, one[1] % modulus)
            if to_other and to_one:
                either = either | bit
            elif to_other:
                first = first | bit
            elif to_one:
                second = second | bit
            elif faces_one & faces_other != 0:
                first, second = first | bit, second | bit
            else:
                return None
        return (first, second, either)
