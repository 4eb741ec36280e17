"""A row read turn by turn: what waits, what has failed, and which oaths were broken."""

from oathfall.reading import grounds, reading

# The duty that a deed fails, by the deed's word.
FAILED_BY = {"strike": "spare", "help": "shun"}


# What stands behind one turn: the deeds up to it, the reading, a dict with each tuple (duty, oath's
# number) of a duty that is sure by the oath, what waits, and the breaches so far. It is never
# changed once it is made, so that several rows may go on from one turn.
class Turn:
    def __init__(self, row, read_so, sure, waiting, failed):
        self.row = row
        self.read_so = read_so
        self.sure = sure
        self.waiting = waiting
        self.failed = failed


# Ahead of turn 0 nothing is sure: so what is sure behind it waits from it on.
def first_turn(world):
    return turn_behind(world, Turn([], ([], []), {}, [], []), [])


def next_turn(world, ahead, deed):
    return turn_behind(world, ahead, ahead.row + [deed])


# All breaches up to the turn ahead have a turn below this one: so their oaths were broken.
def turn_behind(world, ahead, row):
    oaths_broken = oaths_of(ahead.failed)
    read_so = reading(world, row, oaths_broken)
    sure = dict([(ground, True) for ground in grounds(world, row, oaths_broken, read_so)])
    ends = [end_of(wait, sure, row) for wait in ahead.waiting]
    still = [wait for wait, end in zip(ahead.waiting, ends) if end == "none"]
    failed = [breach_of(wait, row) for wait, end in zip(ahead.waiting, ends) if end == "failed"]
    waiting = sorted(still + begun(world, ahead, sure, row))
    return Turn(row, read_so, sure, waiting, sorted(ahead.failed + failed + failed_at_once(ahead, row)))


def oaths_of(failed):
    return sorted(set([oath for turn, oath, a, b, since in failed]))


# Whatever is no longer sure is let go, even where the deed would have kept it.
def end_of(wait, sure, row):
    duty = ("help", wait[1], wait[2])
    if (duty, wait[0]) not in sure:
        return "let go"
    if row[-1] == duty:
        return "kept"
    return "failed" if len(row) == wait[4] else "none"


def breach_of(wait, row):
    return (len(row), wait[0], wait[1], wait[2], wait[3])


def begun(world, ahead, sure, row):
    now = len(row)
    fresh = [ground for ground in sure if ground[0][0] == "help" and ground not in ahead.sure]
    return [(oath, duty[1], duty[2], now, now + world[1][oath][4]) for duty, oath in fresh]


def failed_at_once(ahead, row):
    if len(row) == 0 or row[-1][0] not in FAILED_BY:
        return []
    duty = (FAILED_BY[row[-1][0]], row[-1][1], row[-1][2])
    return [(len(row), oath, duty[1], duty[2], len(row)) for owed, oath in ahead.sure if owed == duty]


def turns(world, row):
    told = [first_turn(world)]
    for deed in row:
        told.append(next_turn(world, told[-1], deed))
    return told


def last_turn(world, row):
    return turns(world, row)[-1]


def breaches(world, row):
    return last_turn(world, row).failed


def waits(world, row):
    return last_turn(world, row).waiting


def broken(world, row):
    return oaths_of([breach for breach in breaches(world, row) if breach[0] < len(row)])


def read(world, row):
    return last_turn(world, row).read_so
