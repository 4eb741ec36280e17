"""What a condition, an oath and a world are, and what may be owed by an oath."""

from oathfall.deeds import WORDS
from oathfall.errors import NoLand, NoOath, TooMany
from oathfall.lands import are_lands, is_between, is_land, lands_of

DUTIES = ("help", "spare", "shun")

MOST_LANDS = 6
MOST_OATHS = 8
MOST_PARTS = 12
MOST_DEEP = 6
MOST_SOMES = 2
MOST_SPAN = 9
LAST_FIRST = 16
LAST_END = 17

# What stands behind each word that begins a condition.
SHAPES = {
    "yes": (),
    "did": ("word", "land", "land"),
    "began": ("land", "land"),
    "owes": ("duty", "land", "land"),
    "broken": ("oath",),
    "among": ("land", "lands"),
    "not": ("condition",),
    "and": ("condition", "condition"),
    "or": ("condition", "condition"),
    "some": ("lands", "condition"),
}


# The parts are counted last: what is not too deep has few enough of them to be counted.
def is_condition(n, many, thing):
    return is_shaped(n, many, thing, 1, 0) and parts_of(thing) <= MOST_PARTS


# deep is how deep the thing stands in the whole, somes how many somes stand around it. What stands
# too deep is not looked into, since forty deep there may be more parts than can be gone through.
def is_shaped(n, many, thing, deep, somes):
    if deep > MOST_DEEP or not isinstance(thing, tuple) or len(thing) == 0:
        return False
    word = thing[0]
    if word not in SHAPES or len(thing) != 1 + len(SHAPES[word]):
        return False
    within = somes + 1 if word == "some" else somes
    if within > MOST_SOMES:
        return False
    for kind, part in zip(SHAPES[word], thing[1:]):
        if kind == "condition":
            fits = is_shaped(n, many, part, deep + 1, within)
        else:
            fits = is_part(n, many, kind, part, within)
        if not fits:
            return False
    return True


def is_part(n, many, kind, part, somes):
    if kind == "land":
        return is_land(n, part) or part in ("me", "you") or (part == "who" and somes > 0)
    if kind == "lands":
        return are_lands(n, part)
    if kind == "oath":
        return is_between(0, many - 1, part)
    if kind == "duty":
        return part in DUTIES
    return part in WORDS and part != "peace"


def parts_of(condition):
    return 1 + sum([parts_of(part) for part in condition if isinstance(part, tuple)])


def is_oath(n, many, thing):
    if len(thing) != 8 or thing[0] not in DUTIES:
        return False
    for bits in (thing[1], thing[2], thing[7]):
        if not are_lands(n, bits):
            return False
    if not is_condition(n, many, thing[3]):
        return False
    if not is_between(1, MOST_SPAN, thing[4]) or not is_between(0, LAST_FIRST, thing[5]):
        return False
    return thing[6] is None or is_between(0, LAST_END, thing[6])


def world_of(n, oaths):
    if not is_between(1, MOST_LANDS, n):
        raise NoLand(f"{n!r} is no number of lands")
    if len(oaths) > MOST_OATHS:
        raise TooMany(f"there are more than {MOST_OATHS} oaths")
    for j, oath in enumerate(oaths):
        if not is_oath(n, len(oaths), oath):
            raise NoOath(j)
    return (n, tuple(oaths))


def in_force(oath, k):
    return oath[5] <= k and (oath[6] is None or k < oath[6])


def duties_of(oath):
    owed = []
    for a in lands_of(oath[1]):
        owed.extend([(oath[0], a, b) for b in lands_of(oath[2]) if b != a])
    return owed


def owed_by(world, duty):
    return [j for j, oath in enumerate(world[1]) if duty in duties_of(oath)]


def duties(n):
    told = []
    for duty in sorted(DUTIES):
        for a in range(n):
            told.extend([(duty, a, b) for b in range(n) if b != a])
    return told
