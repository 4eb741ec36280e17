"""Conditions, worlds and rows that are drawn from a number, and the document's words on them spelled
out anew, without regard to how long it takes. What is told here shares no code with the package."""

import itertools
import random

DUTIES = ("help", "spare", "shun")
DONE = ("strike", "pass", "warn", "call", "help", "refuse")
YES = ("yes",)

# Duties between the first two lands.
HELP = ("help", 0, 1)
BACK = ("help", 1, 0)
SHUN = ("shun", 0, 1)
SPARE = ("spare", 0, 1)


def oath(duty="help", makers=1, wards=2, condition=YES, span=1, first=0, end=None, knowers=0):
    return (duty, makers, wards, condition, span, first, end, knowers)


def look(duty, x="me", y="you"):
    return ("owes", duty, x, y)


def turned(duty, x="me", y="you"):
    return ("not", look(duty, x, y))


def wiped(thing):
    """Empties all lists within what was told."""
    for part in thing:
        if isinstance(part, (list, tuple)):
            wiped(part)
    if isinstance(thing, list):
        thing.clear()


# Drawing.

def drawn_leaf(draw, n, many, somes):
    lands = list(range(n)) + ["me", "you"] * 2 + ["who"] * (4 if somes else 0)
    x, y = draw.choice(lands), draw.choice(lands)
    kinds = [
        ("yes",), ("did", draw.choice(DONE[:2]), x, y), ("began", x, y), ("among", x, draw.randrange(1 << n)),
    ] + [("owes", draw.choice(DUTIES), x, y)] * 12
    if many > 0:
        kinds.append(("broken", draw.randrange(many)))
    return draw.choice(kinds)


def drawn_condition(draw, n, many, deep=4, somes=0, leaf=drawn_leaf):
    word = draw.choice(("leaf", "not", "not", "and", "or", "some"))
    if deep == 1 or word == "leaf" or (word == "some" and somes == 2):
        return leaf(draw, n, many, somes)
    if word == "some":
        return ("some", draw.randrange(1 << n), drawn_condition(draw, n, many, deep - 1, somes + 1, leaf))
    parts = [drawn_condition(draw, n, many, deep - 1, somes, leaf) for part in range(1 if word == "not" else 2)]
    return (word, *parts)


def short_condition(draw, n, many, deep=4, leaf=drawn_leaf):
    while True:
        condition = drawn_condition(draw, n, many, deep, 0, leaf)
        if parts(condition) <= 12:
            return condition


def drawn_bits(draw, n):
    return draw.randrange(1 << n) | draw.randrange(1 << n)


def drawn_oath(draw, n, many, deep=4):
    duty, condition = draw.choice(DUTIES), short_condition(draw, n, many, deep)
    first, end = draw.choice((0, 0, 0, 0, 1, 2)), draw.choice((None, None, None, 2, 3, 17))
    return (duty, drawn_bits(draw, n), drawn_bits(draw, n), condition, 1, first, end, drawn_bits(draw, n))


def drawn_row(draw, n, most=3):
    pairs = list(itertools.permutations(range(n), 2))
    if not pairs:
        return []
    return [(draw.choice(("strike", "strike", "pass", "peace")), *draw.choice(pairs))
            for turn in range(draw.randrange(most + 1))]


def cases(seed, count, lands=(1, 2, 2, 3, 3), most_oaths=6, deep=4):
    """Tuples (world, row, broken), the same ones for the same seed."""
    draw = random.Random(seed)
    for each in range(count):
        n = draw.choice(lands)
        many = max(draw.randrange(most_oaths + 1), draw.randrange(most_oaths + 1))
        world = (n, tuple([drawn_oath(draw, n, many, deep) for j in range(many)]))
        broken = [j for j in range(many) if draw.random() < 0.3]
        yield world, drawn_row(draw, n), broken


# Worlds and rows in which much waits, is kept, fails and is shunned: the conditions look at deeds and
# breaches more than at duties, and helps are done often.

def drawn_lively_leaf(draw, n, many, somes):
    lands = list(range(n)) + ["me", "you"] * 2 + ["who"] * (4 if somes else 0)
    x, y = draw.choice(lands), draw.choice(lands)
    return draw.choice([
        ("yes",), ("did", draw.choice(("strike", "help", "pass")), x, y), ("did", "strike", x, y), ("began", x, y),
        ("broken", draw.randrange(many)), ("owes", draw.choice(DUTIES), x, y),
    ])


def drawn_lively_oath(draw, n, many, deep):
    duty = draw.choice(("help", "help", "help", "shun", "shun", "spare"))
    condition = draw.choice((
        YES, ("did", "strike", "you", "me"), ("not", ("began", "me", "you")),
        short_condition(draw, n, many, 1, drawn_lively_leaf),
        short_condition(draw, n, many, deep, drawn_lively_leaf),
        short_condition(draw, n, many, deep, drawn_lively_leaf),
    ))
    span = draw.choice((1, 1, 2, 2, 3, 4, 9))
    first, end = draw.choice((0, 0, 0, 0, 1, 2, 4)), draw.choice((None, None, None, None, 2, 3, 5, 17))
    return (duty, drawn_bits(draw, n), drawn_bits(draw, n), condition, span, first, end, drawn_bits(draw, n))


def drawn_lively_row(draw, n, most):
    pairs = list(itertools.permutations(range(n), 2))
    words = ("help", "help", "strike", "strike", "peace", "peace", "pass", "warn")
    return [(draw.choice(words), *draw.choice(pairs)) for turn in range(draw.randrange(most + 1)) if pairs]


def histories(seed, count, lands=(1, 2, 2, 2, 3, 3, 3), most_oaths=6, most_deeds=8, deep=3):
    """Tuples (world, row), the same ones for the same seed."""
    draw = random.Random(seed)
    for each in range(count):
        n = draw.choice(lands)
        many = max(draw.randrange(most_oaths + 1), draw.randrange(most_oaths + 1))
        world = (n, tuple([drawn_lively_oath(draw, n, many, deep) for j in range(many)]))
        yield world, drawn_lively_row(draw, n, most_deeds)


# Spelled out.

def within(condition):
    return [part for part in condition if isinstance(part, tuple)]


def parts(condition):
    return 1 + sum(parts(part) for part in within(condition))


def depth(condition):
    return 1 + max([depth(part) for part in within(condition)], default=0)


def bits(lands):
    return [k for k, figure in enumerate(reversed(bin(lands))) if figure == "1"]


def all_duties(n):
    return sorted((duty, a, b) for duty in DUTIES for a, b in itertools.permutations(range(n), 2))


def may_owe(one, duty):
    word, a, b = duty
    return one[0] == word and a in bits(one[1]) and b in bits(one[2]) and a != b


def behind_peace(row, a, b):
    places = [k for k, deed in enumerate(row) if deed[0] == "peace" and set(deed[1:]) == {a, b}]
    return row[max(places, default=-1) + 1:]


# A not exchanges the two lists for what stands within it.
def stands(condition, row, broken, plain, other, roles):
    def land(x):
        return roles.get(x, x)

    match condition:
        case ("yes",):
            return True
        case ("did", word, x, y):
            return land(x) != land(y) and (word, land(x), land(y)) in behind_peace(row, land(x), land(y))
        case ("began", x, y):
            two = {land(x), land(y)}
            deeds = behind_peace(row, land(x), land(y))
            strikers = [deed[1] for deed in deeds if deed[0] == "strike" and set(deed[1:]) == two]
            return strikers[:1] == [land(x)]
        case ("owes", duty, x, y):
            return land(x) != land(y) and (duty, land(x), land(y)) in plain
        case ("broken", j):
            return j in broken
        case ("among", x, lands):
            return land(x) in bits(lands)
        case ("not", c):
            return not stands(c, row, broken, other, plain, roles)
        case ("and", c, d):
            return all([stands(part, row, broken, plain, other, roles) for part in (c, d)])
        case ("or", c, d):
            return any([stands(part, row, broken, plain, other, roles) for part in (c, d)])
        case ("some", lands, c):
            return any([stands(c, row, broken, plain, other, dict(roles, who=who)) for who in bits(lands)])
    raise AssertionError(condition)


def exchanged(thing, lands):
    """A condition, oath, deed or duty with land k as lands[k]."""
    def land(x):
        return lands[x] if isinstance(x, int) else x

    def bits(number):
        return sum(1 << lands[k] for k in range(len(lands)) if number & 1 << k)

    match thing:
        case ("among", x, number):
            return ("among", land(x), bits(number))
        case ("some", number, c):
            return ("some", bits(number), exchanged(c, lands))
        case ("broken", j):
            return thing
        case (duty, makers, wards, condition, span, first, end, knowers):
            return (duty, bits(makers), bits(wards), exchanged(condition, lands), span, first, end, bits(knowers))
    return tuple([exchanged(part, lands) if isinstance(part, tuple) else land(part) for part in thing])


def owed(world, k):
    """All tuples (duty, oath's number) of oaths in force behind turn k."""
    told = []
    for j, one in enumerate(world[1]):
        if one[5] <= k and (one[6] is None or k < one[6]):
            told += [((one[0], a, b), j) for a in bits(one[1]) for b in bits(one[2]) if a != b]
    return told


def holding(world, row, broken, plain, other):
    """Those of owed whose condition holds."""
    return [
        (duty, j) for duty, j in owed(world, len(row))
        if stands(world[1][j][3], row, broken, plain, other, {"me": duty[1], "you": duty[2]})
    ]


def made_slowly(world, row, broken, some):
    told = set()
    while True:
        more = {duty for duty, j in holding(world, row, broken, told, some)}
        if more == told:
            return sorted(told)
        told = more


def read_slowly(world, row, broken):
    """The sure duties, and those that are sure or open."""
    sure = []
    while True:
        both = made_slowly(world, row, broken, sure)
        more = made_slowly(world, row, broken, both)
        if more == sure:
            return sure, both
        sure = more


def looks_slowly(world, duty):
    """Each look by the path to it: the nots above it are counted, and who is each land of the last some above."""
    told = set()
    for one in world[1]:
        if may_owe(one, duty):
            for one_look, above in looks_with_paths(one[3], ()):
                somes = [whole[1] for whole in above if whole[0] == "some"]
                odd = [whole[0] for whole in above].count("not") % 2 == 1
                if 0 in somes:
                    continue
                for who in bits(somes[-1]) if somes else [None]:
                    roles = {"me": duty[1], "you": duty[2], "who": who}
                    a, b = [roles.get(x, x) for x in one_look[2:]]
                    if a != b:
                        told.add(((one_look[1], a, b), odd))
    return sorted(told)


def looks_with_paths(condition, above):
    if condition[0] == "owes":
        return [(condition, above)]
    found = []
    for part in within(condition):
        found += looks_with_paths(part, above + (condition,))
    return found


class Story:
    """A row's turns: for each the sure duties, what is sure by which oath, and the oaths that were broken.

    What waits is told by the stretches of turns behind which a duty is sure by an oath without a break."""

    def __init__(self, world, row):
        self.world, self.row = world, list(row)
        self.sure, self.by, self.broken = [], [], []
        for k in range(len(row) + 1):
            broken = sorted({breach[1] for breach in self.breaches() if breach[0] < k})
            sure, both = read_slowly(world, row[:k], broken)
            self.sure.append(sure)
            self.by.append(holding(world, row[:k], broken, sure, both))
            self.broken.append(broken)

    def stretches(self):
        """Tuples (oath, a, b, first turn, last turn) of all helps that are sure by an oath, as far as it is read."""
        for (word, a, b), j in sorted(set(itertools.chain(*self.by))):
            if word == "help":
                turns = [k for k, by in enumerate(self.by) if ((word, a, b), j) in by]
                for first in turns:
                    if first - 1 not in turns:
                        last = first
                        while last + 1 in turns:
                            last += 1
                        yield j, a, b, first, last

    def waiting(self):
        """Tuples (oath, a, b, since, due, end, turn): how each wait has ended, and at which turn."""
        for j, a, b, first, last in self.stretches():
            due = first + self.world[1][j][4]
            ends = [(k, "kept") for k in range(first + 1, last + 1) if self.row[k - 1] == ("help", a, b)]
            ends += [(k, "failed") for k in (due,) if k <= last]
            ends += [(last + 1, "let go") for k in (last,) if k < len(self.by) - 1]
            turn, end = sorted(ends + [(99, "waits")], key=lambda one: (one[0], one[1] != "kept"))[0]
            yield j, a, b, first, due, end, turn

    def breaches(self):
        told = [(turn, j, a, b, since) for j, a, b, since, due, end, turn in self.waiting() if end == "failed"]
        for k in range(1, len(self.by)):
            word, a, b = self.row[k - 1]
            failed = {"strike": "spare", "help": "shun"}.get(word)
            told += [(k, j, a, b, k) for duty, j in self.by[k - 1] if duty == (failed, a, b)]
        return sorted(told)

    def waits(self):
        return sorted([wait[:5] for wait in self.waiting() if wait[5] == "waits"])
