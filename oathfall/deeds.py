"""Deeds, and what a row of them has done between two lands."""

from oathfall.lands import is_land

WORDS = ("strike", "pass", "warn", "call", "help", "refuse", "peace")


def is_deed(n, thing):
    if len(thing) != 3 or thing[0] not in WORDS:
        return False
    return is_land(n, thing[1]) and is_land(n, thing[2]) and thing[1] != thing[2]


# A peace wipes out what stands ahead of it for its two lands alone, whichever of them made it.
def behind_peace(row, a, b):
    behind = []
    for deed in row:
        if deed in (("peace", a, b), ("peace", b, a)):
            behind = []
        else:
            behind.append(deed)
    return behind


def did(row, word, a, b):
    return (word, a, b) in behind_peace(row, a, b)


def began(row, a, b):
    for deed in behind_peace(row, a, b):
        if deed == ("strike", a, b):
            return True
        if deed == ("strike", b, a):
            return False
    return False
