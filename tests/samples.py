"""Programs, their inputs, machines and strays for the tests, made from a told seed: the same each time."""

from random import Random

WORDS = ("sum", "less", "times")
SQUARE = (("in", -3, 3), ("times", 0, 0), ("is", 2), ("less", 1, 2))
# The values come to 10 ** 120, above it and below it by turns.
GREAT = (("in", -(10 ** 60), 10 ** 60), ("times", 0, 0), ("is", -(10 ** 60)), ("times", 0, 2), ("in", 0, 10 ** 59),
         ("times", 4, 2), ("less", 5, 4))
MACHINES = ((7, 11, 13), (4,), (2, 10 ** 6), (4, 6, 9), (6, 6, 6), (999983, 999979, 10),
            (2, 3, 5, 7, 11, 13, 17, 19, 23, 29))


def program_by(chance, longest=12):
    """Return a program: small numbers, so that hulls stay within their bound."""
    steps = []
    for place in range(chance.randint(1, longest)):
        many = chance.randint(0, 5)
        if place == 0 or many == 0:
            low = chance.randint(-9, 9)
            steps.append(("in", low, low + chance.randint(0, 9)))
        elif many == 1:
            steps.append(("is", chance.randint(-9, 9)))
        else:
            # Few products one behind another, each of which doubles how many figures there may be.
            word = WORDS[chance.randint(0, 2)] if steps[-1][0] != "times" or place < 5 else "less"
            steps.append((word, chance.randint(0, place - 1), chance.randint(0, place - 1)))
    return tuple(steps)


def inputs_by(chance, program):
    return tuple(chance.randint(step[1], step[2]) for step in program if step[0] == "in")


def strays_by(chance, machine, program):
    places = [(lane, step) for lane in range(len(machine)) for step in range(len(program))]
    chosen = sorted(chance.sample(places, chance.randint(0, min(4, len(places)))))
    return tuple((lane, step, chance.randint(0, machine[lane] - 1)) for lane, step in chosen)


def runs_by(seed, many):
    """Return that many of machine, program, inputs, strays."""
    chance, runs = Random(seed), []
    for turn in range(many):
        machine = MACHINES[turn % len(MACHINES)]
        program = program_by(chance) if turn % 5 else GREAT
        runs.append((machine, program, inputs_by(chance, program), strays_by(chance, machine, program)))
    return runs


def of_inputs(*counts):
    """Return a program with a step for each of counts, so many inputs in it, and their sum at the end."""
    steps = [("in", 0, count - 1) for count in counts]
    for place in range(1, len(counts)):
        steps.append(("sum", len(steps) - 1 if place > 1 else 0, place))
    return tuple(steps)


def few_inputs(chance, most, longest):
    """Return a program with at most so many tuples of inputs."""
    while True:
        program = program_by(chance, longest)
        many = 1
        for step in program:
            many *= step[2] - step[1] + 1 if step[0] == "in" else 1
        if many <= most:
            return program
