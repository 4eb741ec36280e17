"""Which duties look at which, rings of looks, and the layers where there is no ring."""

from oathfall.clauses import land_of, with_who
from oathfall.lands import lands_of
from oathfall.oaths import duties, owed_by


def looks(world, duty):
    found = []
    for j in owed_by(world, duty):
        found.extend(looks_within(world[1][j][3], {"me": duty[1], "you": duty[2]}, False))
    return sorted(set(found))


def looks_within(condition, roles, turned):
    word = condition[0]
    if word == "owes":
        a = land_of(roles, condition[2])
        b = land_of(roles, condition[3])
        return [((condition[1], a, b), turned)] if a != b else []
    if word == "not":
        return looks_within(condition[1], roles, not turned)
    if word in ("and", "or"):
        return looks_within(condition[1], roles, turned) + looks_within(condition[2], roles, turned)
    found = []
    if word == "some":
        for land in lands_of(condition[1]):
            found.extend(looks_within(condition[2], with_who(roles, land), turned))
    return found


def all_looks(world):
    seen = {}
    for duty in duties(world[0]):
        seen[duty] = looks(world, duty)
    return seen


# Of each duty that can be reached by looks the way to it, both of its ends told. No duty stands
# twice in a way, since each is reached once.
def ways_from(seen, start):
    ways = {start: [start]}
    ahead = [start]
    while len(ahead) > 0:
        duty = ahead.pop(0)
        for other, turned in seen[duty]:
            if other not in ways:
                ways[other] = ways[duty] + [other]
                ahead.append(other)
    return ways


# A ring may be told from any of its duties on: so only rings whose last look is turned are sought.
def ring(world):
    seen = all_looks(world)
    for duty in seen:
        ways = ways_from(seen, duty)
        for last in ways:
            if (duty, True) in seen[last]:
                return ways[last]
    return None


# Layers begin at 0 and rise as far as they must, no farther: so they are the least. Where there is
# no ring they rise no more at some time.
def layers(world):
    if ring(world) is not None:
        return None
    seen = all_looks(world)
    told = {}
    for duty in seen:
        told[duty] = 0
    risen = True
    while risen:
        risen = False
        for duty in seen:
            least = least_layer(seen[duty], told)
            if least > told[duty]:
                told[duty] = least
                risen = True
    return sorted(told.items())


def least_layer(looked_at, told):
    return max([told[other] + 1 if turned else told[other] for other, turned in looked_at], default=0)
