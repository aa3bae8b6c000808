"""The faces of lanes: what they can put out at the last step of a program if they stray at units alone."""

from straylanes.runs import lane_rests
from straylanes.steps import RECKONING, given_integers, reckoned_column


class Facing:
    """The lanes of a machine that run a program and may stray at units."""

    def __init__(self, machine, program, units):
        self.machine = machine
        self.program = program
        self.units = units
        self.leading = leading_places(program, units)
        # Lanes with one modulus share what they come to, and so do inputs with one rest by it.
        self.known = {}

    def column(self, lane, inputs):
        """Return the list of what lane puts out at the last step, for each row of rests at the units that lead there.

        The first of these units has all its rests in turn, the second one all its rests for each turn of the first.
        """
        modulus, many = self.machine[lane], 1
        right = lane_rests(modulus, self.program, given_integers(self.program, inputs), {})
        columns = {}
        for place in self.leading:
            step = self.program[place]
            if place in self.units:
                columns = {at: columns[at] * modulus for at in columns}
                columns[place] = [rest for rest in range(modulus) for _ in range(many)]
                many = many * modulus
            elif step[0] in RECKONING and (step[1] in columns or step[2] in columns):
                one, other = [columns.get(at, [right[at]] * many) for at in step[1:]]
                columns[place] = [value % modulus for value in reckoned_column(step, one, other)]
        return columns.get(self.leading[-1], [right[-1]])

    def strays_to(self, lane, inputs, rest):
        """Return a list of strays of lane, at units, by which it puts out rest, one of its faces, at the end."""
        modulus = self.machine[lane]
        turn, strays = self.column(lane, inputs).index(rest), []
        for place in self.leading:
            if place in self.units:
                strays.append((lane, place, turn % modulus))
                turn = turn // modulus
        return strays

    def face_bits(self, lane, inputs):
        """Return the integer that has the bit 1 << rest for each rest that lane can put out at the end."""
        modulus = self.machine[lane]
        key = (modulus, tuple([number % modulus for number in inputs]))
        if key not in self.known:
            self.known[key] = sum([1 << rest for rest in sorted(set(self.column(lane, inputs)))])
        return self.known[key]

    def common_face(self, lane, inputs, other_inputs):
        """Return the greatest rest that lane can put out at the end with both inputs."""
        return (self.face_bits(lane, inputs) & self.face_bits(lane, other_inputs)).bit_length() - 1


def leading_places(program, units):
    """Return the ascending list of the places that the last step hangs on; a unit hangs on nothing."""
    last = len(program) - 1
    leading = {last: True}
    for place in range(last, -1, -1):
        step = program[place]
        if place in leading and place not in units and step[0] in RECKONING:
            leading[step[1]] = leading[step[2]] = True
    return sorted(leading)
