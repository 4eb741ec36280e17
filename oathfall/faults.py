"""Which breaches are faults, and which are excused."""

from oathfall.times import turns


def faults(world, row):
    told = turns(world, row)
    found = []
    for breach in told[-1].failed:
        u = free_turn(world, told, breach)
        if u is not None:
            found.append(breach + (u,))
    return found


def excused(world, row):
    told = turns(world, row)
    unfree = [breach for breach in told[-1].failed if free_turn(world, told, breach) is None]
    return [breach + (shuns_behind(told, breach),) for breach in unfree]


# The turn behind which the land was free to keep its word, or None.
def free_turn(world, told, breach):
    if world[1][breach[1]][0] != "help":
        return breach[0] - 1
    for u in range(breach[4], breach[0]):
        if ("shun", breach[2], breach[3]) not in told[u].read_so[0]:
            return u
    return None


def shuns_behind(told, breach):
    duty = ("shun", breach[2], breach[3])
    return [least_oath(turn, duty) for turn in told[breach[4]:breach[0]]]


def least_oath(turn, duty):
    return min([oath for owed, oath in turn.sure if owed == duty])
