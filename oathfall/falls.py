"""What follows when all that waits is done, one help a turn, and which deeds draw a land in."""

from oathfall.deeds import MOST_DEEDS
from oathfall.errors import TooMany
from oathfall.times import last_turn, next_turn

MOST_ROWS = 13


def fall(world, row):
    start = last_turn(world, row)
    return deeds_behind(start, falling(world, start))


def follows(world, row, deed):
    refuse_beyond(len(row) + 1)
    start = next_turn(world, last_turn(world, row), deed)
    return [deed] + deeds_behind(start, falling(world, start))


# All turns of a fall, the one that it begins behind among them.
def falling(world, start):
    told = [start]
    deed = next_help(start)
    while deed is not None:
        refuse_beyond(len(told[-1].row) + 1)
        told.append(next_turn(world, told[-1], deed))
        deed = next_help(told[-1])
    return told


def deeds_behind(start, told):
    return told[-1].row[len(start.row):]


def refuse_beyond(count):
    if count > MOST_DEEDS:
        raise TooMany(f"a row would have more than {MOST_DEEDS} deeds")


def next_help(turn):
    shunned = [(duty[1], duty[2]) for duty in turn.read_so[0] if duty[0] == "shun"]
    free = [(due, a, b, oath) for oath, a, b, since, due in turn.waiting if (a, b) not in shunned]
    if len(free) == 0:
        return None
    first = min(free)
    return ("help", first[1], first[2])


def drawn(world, row):
    return drawn_at(last_turn(world, row))


def drawn_at(turn):
    return sorted(set([duty[1] for duty in turn.read_so[0] if duty[0] == "help"]))


def draws(world, row, a, deeds, most):
    refuse_beyond(len(row) + most)
    if rows_in_all(len(deeds), most) > MOST_ROWS:
        raise TooMany(f"there are more than {MOST_ROWS} rows")
    start = last_turn(world, row)
    for added in rows_of(deeds, most):
        behind = start
        for deed in added:
            behind = next_turn(world, behind, deed)
        told = falling(world, behind)
        if any([a in drawn_at(turn) for turn in told]):
            return (added, deeds_behind(behind, told))
    return None


# They are counted ahead of being made, since there may be too many of them to be made.
def rows_in_all(many, most):
    count = 0
    as_long = 1
    for length in range(most + 1):
        count += as_long
        as_long *= many
    return count


def rows_of(deeds, most):
    told = []
    as_long = [[]]
    for length in range(most + 1):
        told.extend(as_long)
        as_long = one_longer(as_long, deeds)
    return told


def one_longer(rows, deeds):
    told = []
    for row in rows:
        told.extend([row + [deed] for deed in deeds])
    return told
