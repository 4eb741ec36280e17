"""What a land that knows some oaths alone is told, which oaths lean on which, and which are needed."""

from oathfall.lands import lands_of
from oathfall.looks import looks_within
from oathfall.oaths import duties, duties_of
from oathfall.reading import read_as
from oathfall.times import first_turn, next_turn

BLANK = ("help", 0, 0, ("yes",), 1, 0, None, 0)


def taken_out(world, j):
    return with_blanks(world, [j])


def known(world, a):
    return with_blanks(world, [j for j, oath in enumerate(world[1]) if a not in lands_of(oath[7])])


def with_blanks(world, numbers):
    return (world[0], tuple([BLANK if j in numbers else oath for j, oath in enumerate(world[1])]))


def leans(world, i, j):
    return i in leaners(world, j)


def leaning(world, j):
    found = []
    for i in leaners(world, j):
        found.extend(duties_of(world[1][i]))
    return sorted(set(found))


# The oaths that lean on an oath, itself among them: chains of touches are gone back from it.
def leaners(world, j):
    touched = [touched_by(world, oath) for oath in world[1]]
    found = [j]
    ahead = [j]
    while len(ahead) > 0:
        other = ahead.pop()
        fresh = [i for i, numbers in enumerate(touched) if other in numbers and i not in found]
        found.extend(fresh)
        ahead.extend(fresh)
    return found


def touched_by(world, oath):
    named = named_broken(oath[3])
    seen = looks_of(oath)
    return [j for j, other in enumerate(world[1]) if j in named or len(set(seen) & set(duties_of(other))) > 0]


# A broken touches wherever it stands, within a some without lands too, unlike a look.
def named_broken(condition):
    if condition[0] == "broken":
        return [condition[1]]
    found = []
    for part in condition:
        if isinstance(part, tuple):
            found.extend(named_broken(part))
    return found


def looks_of(oath):
    found = []
    for duty in duties_of(oath):
        seen = looks_within(oath[3], {"me": duty[1], "you": duty[2]}, False)
        found.extend([other for other, turned in seen])
    return found


def idle(world, j, rows):
    other = taken_out(world, j)
    turns_with = {}
    turns_without = {}
    for place, row in enumerate(rows):
        one = turn_at(world, turns_with, row)
        two = turn_at(other, turns_without, row)
        duty = least_unlike(world[0], one.read_so, two.read_so)
        if duty is not None:
            return (place, duty)
    return None


# The rows asked about are often beginnings of one another: so what was read of one is kept for the
# others, in a dict from the deeds of a row to the turn behind it.
def turn_at(world, told, row):
    deeds = tuple(row)
    if deeds not in told:
        if len(row) == 0:
            told[deeds] = first_turn(world)
        else:
            told[deeds] = next_turn(world, turn_at(world, told, row[:-1]), row[-1])
    return told[deeds]


def least_unlike(n, one, two):
    for duty in duties(n):
        if read_as(one, duty) != read_as(two, duty):
            return duty
    return None
