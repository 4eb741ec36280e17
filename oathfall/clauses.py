"""Conditions as objects, and whether they hold."""

from oathfall.deeds import began, did
from oathfall.errors import OathError
from oathfall.lands import lands_of


class View:
    # The lists are copied, so that what their owner does to them later changes no answer.
    def __init__(self, row, plain, turned, broken):
        self.row = list(row)
        self.plain = list(plain)
        self.turned = list(turned)
        self.broken = list(broken)


# Whether a look is turned hangs on where it stands in the object that is asked, and one object
# may stand at several places: so it is handed down with each question and never kept. The same
# goes for roles, a dict of the lands that me, you and, within a some, who stand for.
class Clause:
    def holds(self, view, me, you):
        return self.stands(view, {"me": me, "you": you}, False)

    def stands(self, view, roles, turned):
        raise NotImplementedError("each kind of clause has its own")

    def told(self):
        raise NotImplementedError("each kind of clause has its own")


class Yes(Clause):
    def stands(self, view, roles, turned):
        return True

    def told(self):
        return ("yes",)


class Did(Clause):
    def __init__(self, word, x, y):
        self.word = word
        self.x = x
        self.y = y

    def stands(self, view, roles, turned):
        a = land_of(roles, self.x)
        b = land_of(roles, self.y)
        return a != b and did(view.row, self.word, a, b)

    def told(self):
        return ("did", self.word, self.x, self.y)


class Began(Clause):
    def __init__(self, x, y):
        self.x = x
        self.y = y

    def stands(self, view, roles, turned):
        a = land_of(roles, self.x)
        b = land_of(roles, self.y)
        return a != b and began(view.row, a, b)

    def told(self):
        return ("began", self.x, self.y)


class Owes(Clause):
    def __init__(self, duty, x, y):
        self.duty = duty
        self.x = x
        self.y = y

    def stands(self, view, roles, turned):
        a = land_of(roles, self.x)
        b = land_of(roles, self.y)
        read_by = view.turned if turned else view.plain
        return a != b and (self.duty, a, b) in read_by

    def told(self):
        return ("owes", self.duty, self.x, self.y)


class Broken(Clause):
    def __init__(self, j):
        self.j = j

    def stands(self, view, roles, turned):
        return self.j in view.broken

    def told(self):
        return ("broken", self.j)


class Among(Clause):
    def __init__(self, x, lands):
        self.x = x
        self.lands = lands

    def stands(self, view, roles, turned):
        return land_of(roles, self.x) in lands_of(self.lands)

    def told(self):
        return ("among", self.x, self.lands)


class Not(Clause):
    def __init__(self, c):
        self.c = c

    def stands(self, view, roles, turned):
        return not self.c.stands(view, roles, not turned)

    def told(self):
        return ("not", self.c.told())


class And(Clause):
    def __init__(self, c, d):
        self.c = c
        self.d = d

    def stands(self, view, roles, turned):
        return self.c.stands(view, roles, turned) and self.d.stands(view, roles, turned)

    def told(self):
        return ("and", self.c.told(), self.d.told())


class Or(Clause):
    def __init__(self, c, d):
        self.c = c
        self.d = d

    def stands(self, view, roles, turned):
        return self.c.stands(view, roles, turned) or self.d.stands(view, roles, turned)

    def told(self):
        return ("or", self.c.told(), self.d.told())


class Some(Clause):
    def __init__(self, lands, c):
        self.lands = lands
        self.c = c

    def stands(self, view, roles, turned):
        for land in lands_of(self.lands):
            if self.c.stands(view, with_who(roles, land), turned):
                return True
        return False

    def told(self):
        return ("some", self.lands, self.c.told())


def land_of(roles, x):
    return roles.get(x, x)


# A copy, since the who of a some around still stands outside of this one.
def with_who(roles, land):
    within = dict(roles)
    within["who"] = land
    return within


def clause_of(condition):
    word = condition[0]
    if word == "yes":
        return Yes()
    if word == "did":
        return Did(condition[1], condition[2], condition[3])
    if word == "began":
        return Began(condition[1], condition[2])
    if word == "owes":
        return Owes(condition[1], condition[2], condition[3])
    if word == "broken":
        return Broken(condition[1])
    if word == "among":
        return Among(condition[1], condition[2])
    if word == "not":
        return Not(clause_of(condition[1]))
    if word == "and":
        return And(clause_of(condition[1]), clause_of(condition[2]))
    if word == "or":
        return Or(clause_of(condition[1]), clause_of(condition[2]))
    if word == "some":
        return Some(condition[1], clause_of(condition[2]))
    raise OathError(f"no condition begins with {word!r}")


def holds(condition, view, me, you):
    return clause_of(condition).holds(view, me, you)
