"""The one reading that all oaths make behind a row: which duties are sure, and which are open."""

from oathfall.clauses import View, clause_of
from oathfall.oaths import duties_of, in_force


# A claim is a tuple (duty, oath's number, clause): the duty may be owed by the oath, which is in
# force, where the clause holds.
def claims(world, row):
    told = []
    for j, oath in enumerate(world[1]):
        if in_force(oath, len(row)):
            clause = clause_of(oath[3])
            told.extend([(duty, j, clause) for duty in duties_of(oath)])
    return told


# The duties made by some, as tuples (duty, oath's number), each behind those by which its oath's
# condition holds. What holds once holds when more duties are there: so it does not matter which is
# taken first, and none has to be taken back.
def steps_made(claimed, row, broken, some):
    view = View(row, [], some, broken)
    steps = []
    grown = True
    while grown:
        grown = False
        for duty, j, clause in claimed:
            if duty not in view.plain and clause.holds(view, duty[1], duty[2]):
                view.plain.append(duty)
                steps.append((duty, j))
                grown = True
    return steps


def duties_made(claimed, row, broken, some):
    return sorted([duty for duty, j in steps_made(claimed, row, broken, some)])


def made(world, row, broken, some):
    return duties_made(claims(world, row), row, broken, some)


def rounds(world, row, broken):
    claimed = claims(world, row)
    told = [[], duties_made(claimed, row, broken, [])]
    while len(told) < 3 or told[-1] != told[-3]:
        told.append(duties_made(claimed, row, broken, told[-1]))
    return told


# Of the last two rounds one is of the sure duties, the other of those that are sure or open: the
# rounds begin with one of the sure ones.
def reading(world, row, broken):
    told = rounds(world, row, broken)
    if len(told) % 2 == 1:
        return parted(told[-1], told[-2])
    return parted(told[-2], told[-1])


def parted(sure, sure_or_open):
    return (sure, [duty for duty in sure_or_open if duty not in sure])


def read_as(read, duty):
    if duty in read[0]:
        return "sure"
    return "open" if duty in read[1] else "none"


# Each sure duty with each oath by which it is sure, as tuples (duty, oath's number).
def grounds(world, row, broken, read):
    view = View(row, read[0], read[0] + read[1], broken)
    return [(duty, j) for duty, j, clause in claims(world, row) if clause.holds(view, duty[1], duty[2])]


def sure_by(world, row, broken, duty):
    read = reading(world, row, broken)
    return [j for owed, j in grounds(world, row, broken, read) if owed == duty]
