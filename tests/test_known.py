import itertools
import random
import unittest

from oathfall.known import idle, known, leaning, leans, taken_out
from oathfall.oaths import duties, owed_by, world_of
from oathfall.reading import read_as, reading
from oathfall.times import breaches, broken, read, waits

from samples import (
    BACK, DUTIES, HELP, SHUN, SPARE, YES, Story, all_duties, bits, cases, drawn_lively_oath, histories, look,
    looks_slowly, may_owe, oath, read_slowly, turned, within, wiped,
)

BLANK = ("help", 0, 0, ("yes",), 1, 0, None, 0)
WARN = ("warn", 0, 1)
STRIKE = ("strike", 0, 1)


def lines(*oaths, n=3):
    return world_of(n, list(oaths))


def kinds(world, row):
    """How each duty is read, spelled out anew."""
    sure, both = read_slowly(world, row, Story(world, row).broken[-1])
    return ["sure" if duty in sure else "open" if duty in both else "none" for duty in all_duties(world[0])]


class TakenOut(unittest.TestCase):
    def test_the_blank_oath_stands_in_its_place(self):
        self.assertEqual(taken_out(world_of(2, [oath()]), 0), (2, (BLANK,)))

    def test_all_others_stay_as_they_are(self):
        oaths = [oath("help", 1, 2, ("broken", k), span=k + 1, first=k, end=k, knowers=k) for k in range(8)]
        for n, j in itertools.product((3, 6), range(8)):
            told = taken_out(world_of(n, oaths), j)
            self.assertEqual(told, (n, tuple(oaths[:j] + [BLANK] + oaths[j + 1:])))
            self.assertIsInstance(told, tuple)
            self.assertIsInstance(told[1], tuple)

    def test_what_is_told_is_a_world(self):
        for world, row, oaths in cases(700, 60):
            for j in range(len(world[1])):
                n, told = taken_out(world, j)
                self.assertEqual(world_of(n, list(told)), (n, told))

    def test_twice_is_as_once(self):
        world = lines(oath(), oath("shun", 2, 1))
        self.assertEqual(taken_out(taken_out(world, 1), 1), taken_out(world, 1))
        self.assertEqual(taken_out(taken_out(world, 1), 0), (3, (BLANK, BLANK)))

    def test_a_blank_oath_makes_no_duty(self):
        for n in range(1, 7):
            blank = (n, (BLANK,))
            self.assertEqual([owed_by(blank, duty) for duty in duties(n)], [[]] * len(duties(n)))
            self.assertEqual((read(blank, []), waits(blank, [])), (([], []), []))

    def test_a_look_and_a_broken_at_it_do_not_hold_any_more(self):
        world = world_of(2, [oath(), oath("shun", condition=look("help")), oath("spare", condition=("broken", 0))])
        row = [WARN, WARN]
        self.assertEqual(read(world, row), ([HELP, SHUN, SPARE], []))
        self.assertEqual(read(taken_out(world, 0), row), ([], []))
        self.assertEqual(read(taken_out(world, 1), row), ([HELP, SPARE], []))

    def test_the_world_handed_in_stays_as_it_is(self):
        world = world_of(2, [oath(), oath("shun")])
        taken_out(world, 0)
        known(world, 0)
        self.assertEqual(world, (2, (oath(), oath("shun"))))


class Known(unittest.TestCase):
    def test_a_land_that_knows_all_some_or_none(self):
        one, two, three = oath(knowers=1), oath("shun", knowers=3), oath("spare", knowers=7)
        world = lines(one, two, three)
        self.assertEqual(known(world, 0), world)
        self.assertEqual(known(world, 1), (3, (BLANK, two, three)))
        self.assertEqual(known(world, 2), (3, (BLANK, BLANK, three)))
        self.assertEqual(known(world_of(4, world[1]), 3), (4, (BLANK, BLANK, BLANK)))

    def test_without_oaths(self):
        for n in range(1, 7):
            for a in range(n):
                self.assertEqual(known(world_of(n, []), a), (n, ()))

    def test_of_six_lands_and_eight_oaths(self):
        oaths = [oath(span=j + 1, knowers=(j * 11) % 64) for j in range(8)]
        for a in range(6):
            told = tuple([one if a in bits(one[7]) else BLANK for one in oaths])
            self.assertEqual(known(world_of(6, oaths), a), (6, told))

    def test_knowers_alone_matter(self):
        for makers, wards, knowers, a in itertools.product(range(4), range(4), range(4), range(2)):
            world = world_of(2, [oath("help", makers, wards, span=2, knowers=knowers)])
            self.assertEqual(known(world, a) == world, knowers >> a & 1 == 1)

    def test_worlds_alike_in_what_it_knows_are_told_alike(self):
        draw = random.Random(701)
        unlike = 0
        for world, row in histories(701, 80):
            for a in range(world[0]):
                many = len(world[1])
                oaths = []
                for one in world[1]:
                    other = drawn_lively_oath(draw, world[0], many, 3)
                    oaths.append(one if a in bits(one[7]) else other[:7] + (other[7] & ~(1 << a),))
                other = world_of(world[0], oaths)
                self.assertEqual(known(other, a), known(world, a))
                self.assertEqual(read(known(other, a), row), read(known(world, a), row))
                unlike += read(other, row) != read(world, row)
        self.assertGreater(unlike, 30)

    def test_it_is_told_what_the_oaths_it_knows_alone_make(self):
        for world, row in histories(702, 60):
            for a in range(world[0]):
                oaths = [one if a in bits(one[7]) else BLANK for one in world[1]]
                self.assertEqual([read_as(read(known(world, a), row), duty) for duty in duties(world[0])],
                                 kinds((world[0], tuple(oaths)), row))


class Leans(unittest.TestCase):
    def told(self, world):
        many = range(len(world[1]))
        return [(i, j) for i, j in itertools.product(many, many) if leans(world, i, j) and i != j]

    def test_each_on_itself(self):
        for one in (oath(), oath(condition=("broken", 0)), oath(condition=look("help")), BLANK):
            self.assertIs(leans(world_of(2, [one]), 0, 0), True)
        for j in range(8):
            self.assertIs(leans(world_of(6, [oath()] * 8), j, j), True)

    def test_not_on_an_oath_that_is_alike_but_not_looked_at(self):
        self.assertIs(leans(world_of(2, [oath(), oath()]), 0, 1), False)
        self.assertEqual(self.told(world_of(2, [oath(), oath(), oath("shun")])), [])

    def test_by_a_look_turned_or_not(self):
        for condition in (look("help"), turned("help"), ("not", turned("help")), ("or", YES, look("help")),
                          ("and", look("help"), YES), ("and", YES, ("or", YES, turned("help")))):
            world = world_of(2, [oath("shun", condition=condition), oath()])
            self.assertEqual(self.told(world), [(0, 1)])

    def test_by_broken_wherever_it_stands(self):
        for condition in (("broken", 1), ("not", ("broken", 1)), ("or", YES, ("broken", 1)),
                          ("and", ("broken", 1), YES), ("some", 1, ("broken", 1)), ("some", 0, ("broken", 1)),
                          ("some", 0, ("some", 0, ("not", ("broken", 1))))):
            for makers, wards in ((1, 2), (0, 0), (1, 1), (0, 3)):
                world = world_of(2, [oath("help", makers, wards, condition), oath("spare")])
                self.assertEqual(self.told(world), [(0, 1)])

    def test_by_a_look_at_a_duty_that_may_be_owed_alone(self):
        looking = oath("shun", 1, 2, look("help"))
        for makers, wards, touched in ((1, 2, True), (3, 3, True), (1, 3, True), (2, 1, False), (1, 1, False),
                                       (0, 2, False), (1, 0, False), (2, 3, False)):
            world = world_of(2, [looking, oath("help", makers, wards)])
            self.assertIs(leans(world, 0, 1), touched)
        for duty in DUTIES:
            self.assertIs(leans(world_of(2, [looking, oath(duty)]), 0, 1), duty == "help")

    def test_whether_an_oath_is_in_force_or_holds_does_not_matter(self):
        for first, end, condition in ((16, None, YES), (0, 0, YES), (5, 3, YES), (0, None, ("not", YES))):
            other = oath("help", 1, 2, condition, first=first, end=end)
            self.assertEqual(self.told(world_of(2, [oath("shun", condition=look("help")), other])), [(0, 1)])
            looking = oath("shun", condition=look("help"), first=first, end=end)
            self.assertEqual(self.told(world_of(2, [looking, oath()])), [(0, 1)])

    def test_for_a_maker_as_me_and_another_ward_as_you(self):
        helps = oath("help", 1, 2)
        for makers, wards, touched in ((1, 2, True), (5, 6, True), (1, 1, False), (2, 1, False), (2, 2, False),
                                       (0, 7, False), (7, 0, False), (1, 4, False)):
            world = lines(oath("shun", makers, wards, look("help")), helps)
            self.assertIs(leans(world, 0, 1), touched)
            world = lines(oath("shun", makers, wards, look("help", "you", "me")), helps)
            self.assertIs(leans(world, 0, 1), wards & 1 == 1 and makers & 2 == 2)

    def test_a_look_by_numbers_needs_a_maker_and_another_ward_too(self):
        for makers, wards, touched in ((4, 2, True), (4, 4, False), (0, 2, False), (4, 0, False)):
            world = lines(oath("shun", makers, wards, look("help", 0, 1)), oath())
            self.assertIs(leans(world, 0, 1), touched)

    def test_a_look_at_a_land_and_itself_is_none(self):
        for x, y in (("me", "me"), ("you", "you"), ("me", 0), (1, "you"), (2, 2)):
            world = lines(oath("shun", 1, 2, look("help", x, y)), oath("help", 7, 7))
            self.assertIs(leans(world, 0, 1), False)

    def test_a_look_with_each_land_of_the_some_as_who(self):
        for lands, touched in ((0, False), (1, False), (2, False), (4, True), (7, True), (3, False)):
            world = lines(oath("shun", 1, 2, ("some", lands, look("help", "who", "you"))), oath("help", 4, 2))
            self.assertIs(leans(world, 0, 1), touched)

    def test_who_is_a_land_of_the_innermost_some(self):
        helps = oath("help", 4, 2)
        for outer, inner, touched in ((4, 1, False), (1, 4, True), (0, 4, False), (4, 0, False), (4, 4, True)):
            condition = ("some", outer, ("some", inner, look("help", "who", "you")))
            self.assertIs(leans(lines(oath("shun", 1, 2, condition), helps), 0, 1), touched)
        condition = ("some", 4, ("and", ("some", 1, YES), look("help", "who", "you")))
        self.assertIs(leans(lines(oath("shun", 1, 2, condition), helps), 0, 1), True)

    def test_a_look_without_who_in_a_some_without_lands(self):
        for lands in range(8):
            world = lines(oath("shun", 1, 2, ("some", lands, look("help"))), oath())
            self.assertIs(leans(world, 0, 1), lands != 0)

    def test_by_a_chain_of_looks_and_brokens(self):
        world = lines(
            oath("shun", 1, 2, ("broken", 1)), oath("spare", 1, 2, turned("help")), oath("help", 1, 2, ("broken", 3)),
            oath("help", 2, 4), oath("shun", 4, 1, ("broken", 0)),
        )
        self.assertEqual(self.told(world), [(0, 1), (0, 2), (0, 3), (1, 2), (1, 3), (2, 3),
                                            (4, 0), (4, 1), (4, 2), (4, 3)])

    def test_on_itself_in_a_round_all_on_all(self):
        world = lines(oath("help", condition=look("shun")), oath("shun", condition=("broken", 2)),
                      oath("spare", condition=turned("help")), oath("help", 4, 1))
        self.assertEqual(self.told(world), [(i, j) for i in range(3) for j in range(3) if i != j])

    def test_a_chain_of_eight(self):
        oaths = [oath("help", 1, 2, ("broken", min(j + 1, 7))) for j in range(8)]
        world = world_of(6, oaths)
        for i, j in itertools.product(range(8), range(8)):
            self.assertIs(leans(world, i, j), i <= j)

    def test_as_spelled_out(self):
        found = set()
        for world in spelled_worlds(703, 250):
            chains = chains_slowly(world)
            for i, j in itertools.product(range(len(world[1])), repeat=2):
                self.assertIs(leans(world, i, j), (i, j) in chains)
                found.add((i != j, (i, j) in chains))
        self.assertEqual(found, {(False, True), (True, True), (True, False)})


def spelled_worlds(seed, count):
    for world, row, oaths in cases(seed, count, (1, 2, 3, 3, 4)):
        yield world
    for world, row in histories(seed, count, (1, 2, 3, 3, 4)):
        yield world


def touches_slowly(world, i, j):
    one, other = world[1][i], world[1][j]
    stack = [one[3]]
    while stack:
        condition = stack.pop()
        if condition == ("broken", j):
            return True
        stack += within(condition)
    return any([may_owe(other, seen) for duty in all_duties(world[0])
                for seen, odd in looks_slowly((world[0], (one,)), duty)])


def chains_slowly(world):
    many = range(len(world[1]))
    told = {(i, j) for i in many for j in many if i == j or touches_slowly(world, i, j)}
    for k, i, j in itertools.product(many, many, many):
        if (i, k) in told and (k, j) in told:
            told.add((i, j))
    return told


class Leaning(unittest.TestCase):
    def test_its_own_duties_and_those_of_oaths_that_lean_on_it(self):
        world = lines(oath("help", 3, 6), oath("shun", 4, 1, ("broken", 0)), oath("spare", 1, 2))
        own = [("help", 0, 1), ("help", 0, 2), ("help", 1, 2)]
        self.assertEqual(leaning(world, 0), own + [("shun", 2, 0)])
        self.assertEqual(leaning(world, 1), [("shun", 2, 0)])
        self.assertEqual(leaning(world, 2), [("spare", 0, 1)])

    def test_each_once_and_sorted(self):
        world = lines(oath("spare", 7, 7), oath("help", 7, 7, ("broken", 0)), oath("help", 3, 7, ("broken", 1)))
        self.assertEqual(leaning(world, 0), [duty for duty in all_duties(3) if duty[0] != "shun"])
        self.assertEqual(leaning(world, 1), [duty for duty in all_duties(3) if duty[0] == "help"])

    def test_of_an_oath_without_duties(self):
        self.assertEqual(leaning(world_of(2, [BLANK]), 0), [])
        self.assertEqual(leaning(world_of(1, [oath("help", 1, 1)]), 0), [])
        self.assertEqual(leaning(world_of(2, [BLANK, oath("shun", condition=("broken", 0))]), 0), [SHUN])

    def test_of_six_lands_and_eight_oaths(self):
        condition = ("some", 63, ("some", 63, ("and", look("help", "who", "you"), turned("shun", "me", "who"))))
        world = world_of(6, [oath(DUTIES[j % 3], 63, 63, condition) for j in range(8)])
        for j in range(8):
            told = all_duties(6) if j % 3 != 1 else [duty for duty in all_duties(6) if duty[0] == "spare"]
            self.assertEqual(leaning(world, j), told)

    def test_as_spelled_out(self):
        for world in spelled_worlds(704, 150):
            chains = chains_slowly(world)
            for j in range(len(world[1])):
                told = [duty for duty in all_duties(world[0])
                        if any([may_owe(one, duty) and (i, j) in chains for i, one in enumerate(world[1])])]
                self.assertEqual(leaning(world, j), told)

    def test_what_does_not_lean_on_an_oath_is_read_alike_without_it(self):
        changed = kept = 0
        for world, row in histories(705, 250, (2, 2, 3, 3), most_deeds=6):
            readings = [read(world, row[:k]) for k in range(len(row) + 1)]
            for j in range(len(world[1])):
                other = taken_out(world, j)
                lean = leaning(world, j)
                for k, told in enumerate(readings):
                    without = read(other, row[:k])
                    for duty in duties(world[0]):
                        if duty not in lean:
                            self.assertEqual(read_as(without, duty), read_as(told, duty))
                            kept += read_as(told, duty) != "none"
                        changed += read_as(without, duty) != read_as(told, duty)
        self.assertGreater(changed, 1000)
        self.assertGreater(kept, 1000)

    def test_so_it_is_with_oaths_that_were_broken_by_hand(self):
        changed = 0
        for world, row, oaths in cases(706, 200):
            for j in range(len(world[1])):
                told = reading(world, row, oaths)
                without = reading(taken_out(world, j), row, [k for k in oaths if k != j])
                lean = leaning(world, j)
                for duty in duties(world[0]):
                    if duty not in lean:
                        self.assertEqual(read_as(without, duty), read_as(told, duty))
                    changed += read_as(without, duty) != read_as(told, duty)
        self.assertGreater(changed, 300)

    def test_what_waits_and_fails_by_oaths_that_do_not_lean_on_it_stays(self):
        for world, row in histories(707, 150):
            for j in range(len(world[1])):
                other = taken_out(world, j)
                free = [i for i in range(len(world[1])) if not leans(world, i, j)]
                for ask, place in ((breaches, 1), (waits, 0)):
                    self.assertEqual([told for told in ask(other, row) if told[place] in free],
                                     [told for told in ask(world, row) if told[place] in free])


class Idle(unittest.TestCase):
    def test_for_no_rows(self):
        for j in range(2):
            self.assertIsNone(idle(world_of(2, [oath(), oath("shun")]), j, []))

    def test_for_one_row(self):
        world = world_of(2, [oath(condition=("did", "warn", "me", "you"))])
        self.assertIsNone(idle(world, 0, [[]]))
        self.assertEqual(idle(world, 0, [[WARN]]), (0, HELP))

    def test_the_first_row_is_told(self):
        world = world_of(2, [oath(condition=("did", "warn", "me", "you"))])
        self.assertEqual(idle(world, 0, [[], [STRIKE], [WARN], [WARN]]), (2, HELP))
        self.assertEqual(idle(world, 0, [[WARN], [], [WARN]]), (0, HELP))
        self.assertEqual(idle(world, 0, [[STRIKE], [STRIKE, WARN], []]), (1, HELP))

    def test_for_seventeen_rows(self):
        world = world_of(2, [oath(first=16), oath(), oath(first=3), oath("spare", first=16)])
        rows = [[WARN] * k for k in range(17)]
        self.assertEqual([idle(world, j, rows) for j in range(4)], [None, (0, HELP), None, (16, SPARE)])
        self.assertIsNone(idle(world, 3, rows[:16]))
        self.assertEqual(idle(world, 3, rows[::-1]), (0, SPARE))
        self.assertIsNone(idle(world, 0, rows + rows))

    def test_the_least_duty_is_told(self):
        world = lines(oath("spare", 7, 7), oath("shun", 6, 7, ("broken", 0)), oath("help", 4, 2, ("broken", 0)),
                      oath("help", 4, 1, ("broken", 0)))
        self.assertEqual(idle(world, 0, [[]]), (0, ("spare", 0, 1)))
        self.assertEqual(idle(world, 0, [[], [STRIKE, WARN]]), (0, ("spare", 0, 1)))
        self.assertEqual(idle(world, 0, [[STRIKE, WARN]]), (0, ("help", 2, 0)))
        self.assertEqual(idle(world, 1, [[STRIKE, WARN]]), (0, ("shun", 1, 0)))
        self.assertEqual(idle(world, 2, [[STRIKE, WARN]]), (0, ("help", 2, 1)))

    def test_sure_open_and_none_are_unlike(self):
        world = world_of(2, [oath(condition=turned("help")), oath()])
        self.assertEqual((read(world, []), read(taken_out(world, 1), [])), (([HELP], []), ([], [HELP])))
        self.assertEqual(idle(world, 1, [[]]), (0, HELP))
        self.assertIsNone(idle(world, 0, [[]]))
        world = world_of(2, [oath(condition=turned("help"))])
        self.assertEqual(idle(world, 0, [[]]), (0, HELP))

    def test_two_alike_are_idle_each_by_itself(self):
        world = world_of(2, [oath(), oath()])
        self.assertEqual([idle(world, j, [[], [WARN], [WARN, WARN]]) for j in range(2)], [None, None])

    def test_it_is_needed_by_its_breach_alone(self):
        world = world_of(2, [oath(span=2), oath(span=9), oath("shun", 2, 1, ("broken", 0))])
        rows = [[WARN] * k for k in range(6)]
        self.assertEqual(idle(world, 0, rows), (3, ("shun", 1, 0)))
        self.assertIsNone(idle(world, 0, rows[:3]))
        self.assertIsNone(idle(world, 1, rows))

    def test_an_oath_that_never_holds_is_idle(self):
        for one in (oath(condition=("not", YES)), oath(end=0), oath("help", 1, 1), BLANK, oath(first=9)):
            self.assertIsNone(idle(world_of(2, [one, oath("shun", 2, 1, turned("help", "you", "me"))]), 0,
                                   [[WARN] * k for k in range(9)]))

    def test_as_spelled_out(self):
        draw = random.Random(708)
        needed = idles = 0
        for world, row in histories(708, 200, (1, 2, 2, 3), most_oaths=5, most_deeds=5):
            rows = [row[:k] for k in range(len(row) + 1)] + [row[1:], row[::-1]]
            draw.shuffle(rows)
            readings = [kinds(world, one) for one in rows]
            for j in range(len(world[1])):
                other = (world[0], world[1][:j] + (BLANK,) + world[1][j + 1:])
                told = None
                for place, one in enumerate(rows):
                    unlike = [duty for duty, with_it, without in
                              zip(all_duties(world[0]), readings[place], kinds(other, one)) if with_it != without]
                    if unlike:
                        told = (place, unlike[0])
                        break
                self.assertEqual(idle(world, j, rows), told)
                needed += told is not None and told[0] > 0
                idles += told is None
        self.assertGreater(needed, 30)
        self.assertGreater(idles, 30)

    def test_against_read(self):
        for world, row in histories(709, 150):
            rows = [row[:k] for k in range(len(row) + 1)]
            for j in range(len(world[1])):
                other = taken_out(world, j)
                unlike = [k for k, one in enumerate(rows) if read(world, one) != read(other, one)]
                told = idle(world, j, rows)
                self.assertEqual(None if told is None else told[0], unlike[0] if unlike else None)
                if told is not None:
                    self.assertIn(told[1], leaning(world, j))
                    for duty in duties(world[0]):
                        one, two = read_as(read(world, rows[told[0]]), duty), read_as(read(other, rows[told[0]]), duty)
                        self.assertTrue(one == two if duty < told[1] else duty > told[1] or one != two)


class NothingIsShared(unittest.TestCase):
    def test_what_is_handed_in_is_not_changed(self):
        for world, row in histories(710, 40):
            rows = [list(row[:k]) for k in range(len(row) + 1)]
            kept = ([list(one) for one in rows], repr(world))
            for j in range(len(world[1])):
                idle(world, j, rows)
                leaning(world, j)
                leans(world, j, 0)
                taken_out(world, j)
            self.assertEqual((rows, repr(world)), kept)

    def test_what_is_told_is_the_askers_own(self):
        world = world_of(2, [oath(), oath("shun", condition=("broken", 0))])
        told = leaning(world, 0)
        again = leaning(world, 0)
        wiped(told)
        self.assertEqual(again, [HELP, SHUN])
        self.assertEqual(leaning(world, 0), [HELP, SHUN])

    def test_a_row_that_is_changed_later_is_read_anew(self):
        world = world_of(2, [oath(condition=("did", "warn", "me", "you"))])
        row = []
        self.assertIsNone(idle(world, 0, [row]))
        row.append(WARN)
        self.assertEqual(idle(world, 0, [row]), (0, HELP))
        row.append(("peace", 1, 0))
        self.assertIsNone(idle(world, 0, [row]))

    def test_one_row_may_stand_at_several_places(self):
        world = world_of(2, [oath("help", 2, 1, ("did", "warn", "you", "me"))])
        row = [WARN]
        self.assertEqual(idle(world, 0, [[], row[:0], row, row]), (2, BACK))

    def test_the_broken_ones_are_those_of_each_world(self):
        world = world_of(2, [oath(), oath("shun", condition=("broken", 0))])
        row = [WARN, WARN]
        self.assertEqual((broken(world, row), broken(taken_out(world, 0), row)), ([0], []))


if __name__ == "__main__":
    unittest.main()
