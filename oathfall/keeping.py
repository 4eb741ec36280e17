"""Whether a land can keep what waits for it by helping one land a turn."""

from oathfall.times import last_turn


def keep(world, row, a):
    turn = last_turn(world, row)
    pressing = first_dues(turn, a)
    clash = shunned_ward(turn, a, pressing)
    if clash is None:
        clash = too_many_dues(len(row), pressing)
    if clash is not None:
        return ("clash", sorted(clash))
    return ("way", [("help", a, b) for due, b, oath in pressing])


def waits_for(turn, a):
    return sorted([(due, oath, b, since) for oath, maker, b, since, due in turn.waiting if maker == a])


# Of each ward what is due first, as tuples (due, ward, oath): one help keeps all that waits for it.
def first_dues(turn, a):
    told = {}
    for due, oath, b, since in waits_for(turn, a):
        if b not in told:
            told[b] = (due, b, oath)
    return sorted(told.values())


# No clash is smaller than one of a help and a shun, since one help alone can always be kept: what
# is due now waits no more.
def shunned_ward(turn, a, pressing):
    for due, b, oath in pressing:
        for duty, other in turn.sure:
            if duty == ("shun", a, b):
                return [("help", oath, b, due), ("shun", other, b)]
    return None


# The first place at which a help comes too late has the fewest helps up to it.
def too_many_dues(now, pressing):
    for place, wait in enumerate(pressing):
        if wait[0] <= now + place:
            return [("help", oath, b, due) for due, b, oath in pressing[:place + 1]]
    return None
