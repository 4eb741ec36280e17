"""Conditions, worlds and rows that are drawn from a number, and the document's words on them spelled
out anew, without regard to how long it takes. What is told here shares no code with the package."""

import itertools
import random

DUTIES = ("help", "spare", "shun")
DONE = ("strike", "pass", "warn", "call", "help", "refuse")
YES = ("yes",)

# Duties between the first two lands.
HELP = ("help", 0, 1)
BACK = ("help", 1, 0)
SHUN = ("shun", 0, 1)
SPARE = ("spare", 0, 1)


def oath(duty="help", makers=1, wards=2, condition=YES, span=1, first=0, end=None, knowers=0):
    return (duty, makers, wards, condition, span, first, end, knowers)


def look(duty, x="me", y="you"):
    return ("owes", duty, x, y)


def turned(duty, x="me", y="you"):
    return ("not", look(duty, x, y))


# Drawing.

def drawn_leaf(draw, n, many, somes):
    lands = list(range(n)) + ["me", "you"] * 2 + ["who"] * (4 if somes else 0)
    x, y = draw.choice(lands), draw.choice(lands)
    kinds = [
        ("yes",), ("did", draw.choice(DONE[:2]), x, y), ("began", x, y), ("among", x, draw.randrange(1 << n)),
    ] + [("owes", draw.choice(DUTIES), x, y)] * 12
    if many > 0:
        kinds.append(("broken", draw.randrange(many)))
    return draw.choice(kinds)


def drawn_condition(draw, n, many, deep=4, somes=0):
    word = draw.choice(("leaf", "not", "not", "and", "or", "some"))
    if deep == 1 or word == "leaf" or (word == "some" and somes == 2):
        return drawn_leaf(draw, n, many, somes)
    if word == "some":
        return ("some", draw.randrange(1 << n), drawn_condition(draw, n, many, deep - 1, somes + 1))
    parts = [drawn_condition(draw, n, many, deep - 1, somes) for part in range(1 if word == "not" else 2)]
    return (word, *parts)


def short_condition(draw, n, many, deep=4):
    while True:
        condition = drawn_condition(draw, n, many, deep)
        if parts(condition) <= 12:
            return condition


def drawn_bits(draw, n):
    return draw.randrange(1 << n) | draw.randrange(1 << n)


def drawn_oath(draw, n, many, deep=4):
    duty, condition = draw.choice(DUTIES), short_condition(draw, n, many, deep)
    first, end = draw.choice((0, 0, 0, 0, 1, 2)), draw.choice((None, None, None, 2, 3, 17))
    return (duty, drawn_bits(draw, n), drawn_bits(draw, n), condition, 1, first, end, drawn_bits(draw, n))


def drawn_row(draw, n, most=3):
    pairs = list(itertools.permutations(range(n), 2))
    if not pairs:
        return []
    return [(draw.choice(("strike", "strike", "pass", "peace")), *draw.choice(pairs))
            for turn in range(draw.randrange(most + 1))]


def cases(seed, count, lands=(1, 2, 2, 3, 3), most_oaths=6, deep=4):
    """Tuples (world, row, broken), the same ones for the same seed."""
    draw = random.Random(seed)
    for each in range(count):
        n = draw.choice(lands)
        many = max(draw.randrange(most_oaths + 1), draw.randrange(most_oaths + 1))
        world = (n, tuple([drawn_oath(draw, n, many, deep) for j in range(many)]))
        broken = [j for j in range(many) if draw.random() < 0.3]
        yield world, drawn_row(draw, n), broken


# Spelled out.

def within(condition):
    return [part for part in condition if isinstance(part, tuple)]


def parts(condition):
    return 1 + sum(parts(part) for part in within(condition))


def depth(condition):
    return 1 + max([depth(part) for part in within(condition)], default=0)


def bits(lands):
    return [k for k, figure in enumerate(reversed(bin(lands))) if figure == "1"]


def all_duties(n):
    return sorted((duty, a, b) for duty in DUTIES for a, b in itertools.permutations(range(n), 2))


def may_owe(one, duty):
    word, a, b = duty
    return one[0] == word and a in bits(one[1]) and b in bits(one[2]) and a != b


def behind_peace(row, a, b):
    places = [k for k, deed in enumerate(row) if deed[0] == "peace" and set(deed[1:]) == {a, b}]
    return row[max(places, default=-1) + 1:]


# A not exchanges the two lists for what stands within it.
def stands(condition, row, broken, plain, other, roles):
    def land(x):
        return roles.get(x, x)

    match condition:
        case ("yes",):
            return True
        case ("did", word, x, y):
            return land(x) != land(y) and (word, land(x), land(y)) in behind_peace(row, land(x), land(y))
        case ("began", x, y):
            two = {land(x), land(y)}
            deeds = behind_peace(row, land(x), land(y))
            strikers = [deed[1] for deed in deeds if deed[0] == "strike" and set(deed[1:]) == two]
            return strikers[:1] == [land(x)]
        case ("owes", duty, x, y):
            return land(x) != land(y) and (duty, land(x), land(y)) in plain
        case ("broken", j):
            return j in broken
        case ("among", x, lands):
            return land(x) in bits(lands)
        case ("not", c):
            return not stands(c, row, broken, other, plain, roles)
        case ("and", c, d):
            return all([stands(part, row, broken, plain, other, roles) for part in (c, d)])
        case ("or", c, d):
            return any([stands(part, row, broken, plain, other, roles) for part in (c, d)])
        case ("some", lands, c):
            return any([stands(c, row, broken, plain, other, dict(roles, who=who)) for who in bits(lands)])
    raise AssertionError(condition)


def owed(world, k):
    """All tuples (duty, oath's number) of oaths in force behind turn k."""
    told = []
    for j, one in enumerate(world[1]):
        if one[5] <= k and (one[6] is None or k < one[6]):
            told += [((one[0], a, b), j) for a in bits(one[1]) for b in bits(one[2]) if a != b]
    return told


def holding(world, row, broken, plain, other):
    """Those of owed whose condition holds."""
    return [
        (duty, j) for duty, j in owed(world, len(row))
        if stands(world[1][j][3], row, broken, plain, other, {"me": duty[1], "you": duty[2]})
    ]


def made_slowly(world, row, broken, some):
    told = set()
    while True:
        more = {duty for duty, j in holding(world, row, broken, told, some)}
        if more == told:
            return sorted(told)
        told = more


def read_slowly(world, row, broken):
    """The sure duties, and those that are sure or open."""
    sure = []
    while True:
        both = made_slowly(world, row, broken, sure)
        more = made_slowly(world, row, broken, both)
        if more == sure:
            return sure, both
        sure = more


def looks_slowly(world, duty):
    """Each look by the path to it: the nots above it are counted, and who is each land of the last some above."""
    told = set()
    for one in world[1]:
        if may_owe(one, duty):
            for one_look, above in looks_with_paths(one[3], ()):
                somes = [whole[1] for whole in above if whole[0] == "some"]
                odd = [whole[0] for whole in above].count("not") % 2 == 1
                if 0 in somes:
                    continue
                for who in bits(somes[-1]) if somes else [None]:
                    roles = {"me": duty[1], "you": duty[2], "who": who}
                    a, b = [roles.get(x, x) for x in one_look[2:]]
                    if a != b:
                        told.add(((one_look[1], a, b), odd))
    return sorted(told)


def looks_with_paths(condition, above):
    if condition[0] == "owes":
        return [(condition, above)]
    found = []
    for part in within(condition):
        found += looks_with_paths(part, above + (condition,))
    return found
