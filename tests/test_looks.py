import itertools
import unittest

from oathfall.looks import layers, looks, ring
from oathfall.oaths import duties, world_of
from oathfall.reading import reading

from samples import BACK, HELP, SHUN, SPARE, YES, all_duties, cases, look, looks_slowly, oath, turned


def graph(world):
    return {duty: looks(world, duty) for duty in duties(world[0])}


def reached(seen, start):
    """All duties that come by one look or more."""
    told = set()
    ahead = [start]
    while ahead:
        for other, is_turned in seen[ahead.pop()]:
            if other not in told:
                told.add(other)
                ahead.append(other)
    return told


def has_ring(seen):
    return any(is_turned and (other == duty or duty in reached(seen, other))
               for duty in seen for other, is_turned in seen[duty])


def layer_slowly(seen, duty):
    """The most turned looks on any walk from the duty: without a ring, walks that go round add none."""
    best = {(duty, 0)}
    ahead = [(duty, 0)]
    while ahead:
        at, count = ahead.pop()
        for other, is_turned in seen[at]:
            step = (other, count + is_turned)
            if step not in best:
                best.add(step)
                ahead.append(step)
    return max(count for at, count in best)


class Looks(unittest.TestCase):
    def check(self, condition, told, n=2, makers=1, wards=2, asked=HELP):
        world = world_of(n, [oath("help", makers, wards, condition)])
        self.assertEqual(looks(world, asked), told)
        for other, is_turned in looks(world, asked):
            self.assertIsInstance(is_turned, bool)

    def test_none(self):
        for condition in (YES, ("did", "help", "me", "you"), ("began", 0, 1), ("broken", 0), ("among", "me", 1)):
            self.check(condition, [])
            self.check(("not", condition), [])
            self.check(("some", 3, condition), [])

    def test_without_oaths(self):
        for n in range(1, 7):
            for duty in duties(n):
                self.assertEqual(looks(world_of(n, []), duty), [])

    def test_me_and_you_and_lands(self):
        self.check(look("shun"), [(SHUN, False)])
        self.check(look("shun", "you", "me"), [(("shun", 1, 0), False)])
        self.check(look("shun", 2, "me"), [(("shun", 2, 0), False)], 3)
        self.check(look("shun", "you", 2), [(("shun", 1, 2), False)], 3)
        self.check(look("shun", 2, 1), [(("shun", 2, 1), False)], 3)
        self.check(look("spare", 2, "you"), [(("spare", 2, 0), False)], 3, 2, 1, BACK)

    def test_at_itself(self):
        self.check(look("help"), [(HELP, False)])
        self.check(turned("help"), [(HELP, True)])

    def test_x_and_y_alike_is_none(self):
        for x, y in (("me", "me"), ("you", "you"), (0, 0), ("me", 0), (1, "you")):
            self.check(look("shun", x, y), [])
            self.check(("not", look("shun", x, y)), [])
        self.check(("some", 3, look("shun", "who", "me")), [(("shun", 1, 0), False)])
        self.check(("some", 1, look("shun", "who", "me")), [])
        self.check(("some", 3, look("shun", "who", "who")), [])

    def test_turned_within_an_odd_number_of_nots(self):
        condition = look("shun")
        for count in range(6):
            self.check(condition, [(SHUN, count % 2 == 1)])
            condition = ("not", condition)
        self.check(("not", ("and", YES, ("some", 1, ("or", ("not", look("shun")), YES)))), [(SHUN, False)])

    def test_and_or_some_turn_nothing_and_nots_beside_neither(self):
        self.check(("and", ("not", YES), look("shun")), [(SHUN, False)])
        self.check(("or", look("shun"), ("not", YES)), [(SHUN, False)])
        self.check(("some", 1, look("shun")), [(SHUN, False)])
        self.check(("and", look("shun"), turned("spare")), [(SHUN, False), (SPARE, True)])
        self.check(("or", turned("shun"), look("spare")), [(SHUN, True), (SPARE, False)])
        self.check(("not", ("and", look("shun"), turned("spare"))), [(SHUN, True), (SPARE, False)])

    def test_both_ways_and_each_once(self):
        both = [(SHUN, False), (SHUN, True)]
        self.check(("and", look("shun"), turned("shun")), both)
        self.check(("or", turned("shun"), ("and", look("shun"), look("shun", 0, 1))), both)
        world = world_of(2, [oath(condition=turned("shun"))] + [oath(condition=look("shun"))] * 2)
        self.assertEqual(looks(world, HELP), both)

    def test_who_is_each_land_of_its_some(self):
        told = [(("shun", 0, 1), False), (("shun", 0, 2), False), (("shun", 0, 3), False)]
        self.check(("some", 15, look("shun", "me", "who")), told, 4)
        self.check(("some", 12, look("shun", "me", "who")), told[1:], 4)
        self.check(("some", 9, look("shun", "me", "who")), told[2:], 4)

    def test_who_is_the_innermost_ones(self):
        inner = ("some", 4, look("shun", "me", "who"))
        self.check(("some", 2, inner), [(("shun", 0, 2), False)], 3)
        self.check(("some", 2, ("and", inner, look("spare", "me", "who"))),
                   [(("shun", 0, 2), False), (SPARE, False)], 3)
        self.check(("some", 2, ("and", look("spare", "me", "who"), inner)),
                   [(("shun", 0, 2), False), (SPARE, False)], 3)

    def test_none_within_a_some_without_lands(self):
        self.check(("some", 0, look("shun")), [])
        self.check(("some", 0, ("some", 3, look("shun"))), [])
        self.check(("some", 3, ("some", 0, look("shun"))), [])
        self.check(("and", ("some", 0, look("shun")), look("spare")), [(SPARE, False)])
        self.check(("not", ("some", 0, turned("shun"))), [])

    def test_whether_the_look_can_matter_or_not(self):
        self.check(("and", ("not", YES), look("shun")), [(SHUN, False)])
        self.check(("or", YES, look("shun")), [(SHUN, False)])
        self.check(("some", 3, ("and", ("among", "who", 0), look("shun", "who", "me"))), [(("shun", 1, 0), False)])

    def test_of_every_oath_with_that_duty_maker_and_ward_in_force_or_not(self):
        world = world_of(3, [
            oath("help", 1, 2, look("shun"), first=16), oath("help", 3, 6, turned("spare"), end=0),
            oath("shun", 1, 2, look("help", 2, 1)), oath("help", 2, 1, look("help", 2, 0)),
        ])
        self.assertEqual(looks(world, HELP), [(SHUN, False), (SPARE, True)])
        self.assertEqual(looks(world, ("help", 0, 2)), [(("spare", 0, 2), True)])
        self.assertEqual(looks(world, SHUN), [(("help", 2, 1), False)])
        self.assertEqual(looks(world, BACK), [(("help", 2, 0), False)])
        self.assertEqual(looks(world, ("shun", 1, 0)), [])

    def test_makers_or_wards_that_are_none(self):
        for makers, wards in ((0, 3), (3, 0), (0, 0), (1, 1)):
            world = world_of(2, [oath("help", makers, wards, turned("help"))])
            for duty in duties(2):
                self.assertEqual(looks(world, duty), [])

    def test_many_worlds(self):
        for world, row, broken in cases(31, 400, (1, 2, 3, 4), deep=5):
            for duty in all_duties(world[0]):
                self.assertEqual(looks(world, duty), looks_slowly(world, duty), (world, duty))


class Rings(unittest.TestCase):
    def check_ring(self, world, told):
        self.assertIsInstance(told, list)
        self.assertGreater(len(told), 0)
        self.assertEqual(len(set(told)), len(told))
        ways = []
        for duty, other in zip(told, told[1:] + told[:1]):
            ways.append([is_turned for seen, is_turned in looks(world, duty) if seen == other])
            self.assertGreater(len(ways[-1]), 0, (world, told))
        self.assertTrue(any([True in way for way in ways]), (world, told))

    def check(self, world):
        told = ring(world)
        self.assertEqual(told is not None, has_ring(graph(world)), world)
        if told is not None:
            self.check_ring(world, told)
        return told

    def test_none_without_oaths_or_with_one_land(self):
        for n in range(1, 7):
            self.assertIsNone(ring(world_of(n, [])))
        self.assertIsNone(ring(world_of(1, [oath("help", 1, 1, turned("help"))])))

    def test_of_one_duty(self):
        self.assertEqual(self.check(world_of(2, [oath(condition=turned("help"))])), [HELP])
        self.assertIsNone(self.check(world_of(2, [oath(condition=look("help"))])))
        both = ("and", look("help"), turned("help"))
        self.assertEqual(self.check(world_of(2, [oath(condition=both)])), [HELP])

    def test_of_two_duties(self):
        for first, second in itertools.product((look, turned), repeat=2):
            world = world_of(2, [oath(condition=first("shun")), oath("shun", condition=second("help"))])
            told = self.check(world)
            if first is look and second is look:
                self.assertIsNone(told)
            else:
                self.assertEqual(sorted(told), [HELP, SHUN])

    def test_one_turned_look_anywhere_in_a_long_ring(self):
        names = [(duty, a, b) for duty in ("help", "spare", "shun") for a, b in ((0, 1), (1, 0))]
        for place in range(7):
            handed = []
            for k, (duty, a, b) in enumerate(names):
                make = turned if k == place else look
                handed.append(oath(duty, 1 << a, 1 << b, make(*names[(k + 1) % 6])))
            told = self.check(world_of(2, handed))
            if place == 6:
                self.assertIsNone(told)
            else:
                self.assertEqual(sorted(told), sorted(names))

    def test_a_turned_look_that_no_round_goes_through(self):
        world = world_of(2, [
            oath(condition=("and", look("help"), turned("shun"))), oath("shun", condition=look("shun")),
        ])
        self.assertIsNone(self.check(world))

    def test_in_both_ways(self):
        both = ("or", look("shun"), turned("shun"))
        self.check(world_of(2, [oath(condition=both), oath("shun", condition=look("help"))]))
        self.assertIsNotNone(ring(world_of(2, [oath(condition=both), oath("shun", condition=look("help"))])))
        self.assertIsNone(ring(world_of(2, [oath(condition=both), oath("shun", condition=look("spare"))])))

    def test_through_an_oath_that_is_not_in_force(self):
        self.assertEqual(self.check(world_of(2, [oath(condition=turned("help"), end=0)])), [HELP])

    def test_within_a_some_without_lands(self):
        self.assertIsNone(self.check(world_of(2, [oath(condition=("some", 0, turned("help")))])))
        self.assertIsNotNone(self.check(world_of(2, [oath(condition=("some", 1, turned("help")))])))

    def test_the_lands_of_a_round_matter(self):
        others = turned("help", "you", "me")
        self.assertIsNone(self.check(world_of(2, [oath("help", 1, 2, others)])))
        self.assertEqual(sorted(self.check(world_of(2, [oath("help", 3, 3, others)]))), [HELP, BACK])

    def test_many_worlds(self):
        told = [self.check(world) is None for world, row, broken in cases(32, 500)]
        self.assertGreater(told.count(True), 50)
        self.assertGreater(told.count(False), 50)

    def test_six_lands(self):
        for world, row, broken in cases(33, 12, (6,), 8, 6):
            self.check(world)

    def test_what_is_told_is_the_askers_own(self):
        world = world_of(2, [oath(condition=turned("help"))])
        ring(world).clear()
        looks(world, HELP).clear()
        self.assertEqual(ring(world), [HELP])
        self.assertEqual(looks(world, HELP), [(HELP, True)])


class Layers(unittest.TestCase):
    def check(self, world):
        told = layers(world)
        self.assertEqual(told is None, ring(world) is not None, world)
        if told is not None:
            seen = graph(world)
            self.assertEqual([duty for duty, layer in told], all_duties(world[0]))
            self.assertEqual(told, [(duty, layer_slowly(seen, duty)) for duty in all_duties(world[0])], world)
            for step in told:
                self.assertIsInstance(step, tuple)
        return told

    def test_none_where_there_is_a_ring(self):
        self.assertIsNone(layers(world_of(2, [oath(condition=turned("help"))])))
        world = world_of(2, [oath(condition=turned("shun")), oath("shun", condition=look("help"))])
        self.assertIsNone(layers(world))

    def test_one_land(self):
        self.assertEqual(layers(world_of(1, [])), [])
        self.assertEqual(layers(world_of(1, [oath("help", 1, 1, turned("help"))])), [])

    def test_all_in_the_lowest_where_nothing_is_turned(self):
        for n in range(1, 7):
            self.assertEqual(layers(world_of(n, [])), [(duty, 0) for duty in duties(n)])
        world = world_of(2, [oath("help", 3, 3, look("help", "you", "me")), oath("shun", 3, 3, look("help"))])
        self.assertEqual(layers(world), [(duty, 0) for duty in duties(2)])

    def test_above_what_is_looked_at_turned_alone(self):
        world = world_of(2, [
            oath("help", condition=turned("shun")), oath("shun", condition=look("spare")),
            oath("spare", condition=turned("help", 1, 0)),
        ])
        told = dict(self.check(world))
        self.assertEqual((told[BACK], told[SPARE], told[SHUN], told[HELP]), (0, 1, 1, 2))
        self.assertEqual((told[("shun", 1, 0)], told[("spare", 1, 0)]), (0, 0))

    def test_in_both_ways_counts_as_turned(self):
        world = world_of(2, [oath(condition=("or", look("shun"), turned("shun")))])
        self.assertEqual(dict(self.check(world))[HELP], 1)

    def test_the_highest_of_several(self):
        world = world_of(2, [
            oath(condition=("and", look("spare"), turned("help", 1, 0))), oath("spare", condition=turned("shun")),
            oath("shun", condition=turned("help", 1, 0)),
        ])
        told = dict(self.check(world))
        self.assertEqual((told[SHUN], told[SPARE], told[HELP]), (1, 2, 2))

    def test_of_rounds_without_a_turned_look(self):
        world = world_of(2, [
            oath(condition=look("shun")), oath("shun", condition=("or", look("help"), turned("spare"))),
        ])
        told = dict(self.check(world))
        self.assertEqual((told[SPARE], told[SHUN], told[HELP]), (0, 1, 1))

    def test_a_long_way_up(self):
        names = [(duty, a, b) for a, b in ((1, 0), (0, 1)) for duty in ("spare", "help", "shun")]
        handed = [oath(names[k][0], 1 << names[k][1], 1 << names[k][2], turned(*names[k + 1])) for k in range(5)]
        told = dict(self.check(world_of(2, handed)))
        self.assertEqual([told[duty] for duty in names], [5, 4, 3, 2, 1, 0])
        told = dict(self.check(world_of(2, handed[::-1])))
        self.assertEqual([told[duty] for duty in names], [5, 4, 3, 2, 1, 0])

    def test_many_worlds(self):
        highest = [max([layer for duty, layer in self.check(world) or []], default=0)
                   for world, row, broken in cases(34, 500, deep=3)]
        self.assertGreater(len([layer for layer in highest if layer >= 2]), 10)

    def test_what_is_told_is_the_askers_own(self):
        world = world_of(2, [])
        layers(world).clear()
        self.assertEqual(len(layers(world)), 6)


class RingsAndReadings(unittest.TestCase):
    def test_without_a_ring_none_is_open(self):
        without = 0
        opened = 0
        for world, row, broken in cases(35, 600):
            read = reading(world, row, broken)
            if ring(world) is None:
                without += 1
                self.assertEqual(read[1], [], (world, row, broken))
            opened += read[1] != []
        self.assertGreater(without, 100)
        self.assertGreater(opened, 20)


if __name__ == "__main__":
    unittest.main()
