"""All tuples of inputs of a program, and what it comes to with each of them."""

from straylanes.errors import TooMany
from straylanes.steps import reckoned_column


def inputs_within(program, limit):
    """Return the ascending list of all tuples of inputs; raise TooMany(limit) if there are more than limit."""
    stretches = [step[1:] for step in program if step[0] == "in"]
    many = 1
    for low, high in stretches:
        many = many * (high - low + 1)
    # Told ahead of going through them: there may be no end of it.
    if many > limit:
        raise TooMany(limit)
    rows = [()]
    for low, high in stretches:
        rows = [row + (number,) for row in rows for number in range(low, high + 1)]
    return rows


def result_column(program, rows):
    """Return the list of the results for each of rows, tuples of inputs."""
    columns, used = [], 0
    for step in program:
        if step[0] == "in":
            columns.append([row[used] for row in rows])
            used += 1
        elif step[0] == "is":
            columns.append([step[1]] * len(rows))
        else:
            columns.append(reckoned_column(step, columns[step[1]], columns[step[2]]))
    return columns[-1]
