"""Lands exchanged: land k becomes the one that a list tells at its place k."""

from oathfall.lands import is_whole, lands_of
from oathfall.oaths import SHAPES


def exchanged(world, lands):
    return (world[0], tuple([exchanged_oath(oath, lands) for oath in world[1]]))


def exchanged_row(row, lands):
    return [(word, lands[a], lands[b]) for word, a, b in row]


def exchanged_oath(oath, lands):
    makers = exchanged_bits(oath[1], lands)
    wards = exchanged_bits(oath[2], lands)
    knowers = exchanged_bits(oath[7], lands)
    return (oath[0], makers, wards, exchanged_condition(oath[3], lands), oath[4], oath[5], oath[6], knowers)


def exchanged_bits(bits, lands):
    return sum([1 << lands[land] for land in lands_of(bits)])


def exchanged_condition(condition, lands):
    kinds = SHAPES[condition[0]]
    parts = [exchanged_part(kind, part, lands) for kind, part in zip(kinds, condition[1:])]
    return (condition[0],) + tuple(parts)


# A whole number may be a land, lands as bits or an oath: its place alone tells which.
def exchanged_part(kind, part, lands):
    if kind == "condition":
        return exchanged_condition(part, lands)
    if kind == "lands":
        return exchanged_bits(part, lands)
    if kind == "land" and is_whole(part):
        return lands[part]
    return part
