"""Deeds, and what a row of them has done between two lands."""

from oathfall.lands import is_land

WORDS = ("strike", "pass", "warn", "call", "help", "refuse", "peace")

MOST_DEEDS = 16


def is_deed(n, thing):
    if len(thing) != 3 or thing[0] not in WORDS:
        return False
    return is_land(n, thing[1]) and is_land(n, thing[2]) and thing[1] != thing[2]


# A peace wipes out what stands ahead of it for its two lands alone, whichever of them made it. So a
# row is walked from its end, up to the last peace of the two.
def is_peace(deed, a, b):
    return deed[0] == "peace" and deed[1] in (a, b) and deed[2] in (a, b)


def did(row, word, a, b):
    for deed in reversed(row):
        if is_peace(deed, a, b):
            return False
        if deed == (word, a, b):
            return True
    return False


def began(row, a, b):
    first = None
    for deed in reversed(row):
        if is_peace(deed, a, b):
            break
        if deed in (("strike", a, b), ("strike", b, a)):
            first = deed
    return first == ("strike", a, b)
