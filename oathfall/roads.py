"""Roads of oaths that lead to a duty."""

from oathfall.clauses import View, holds
from oathfall.oaths import in_force, owed_by
from oathfall.reading import claims, reading, steps_made


def road(world, row, broken, duty):
    read = reading(world, row, broken)
    steps = steps_made(claims(world, row), row, broken, read[0] + read[1])
    for place, step in enumerate(steps):
        if step[0] == duty:
            return steps[:place + 1]
    return None


def is_road(world, row, broken, steps):
    read = reading(world, row, broken)
    view = View(row, [], read[0] + read[1], broken)
    for duty, j in steps:
        if not is_step(world, view, duty, j):
            return False
        view.plain.append(duty)
    return True


def is_step(world, view, duty, j):
    if j not in owed_by(world, duty):
        return False
    oath = world[1][j]
    return in_force(oath, len(view.row)) and holds(oath[3], view, duty[1], duty[2])
