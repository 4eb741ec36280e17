import itertools
import random
import unittest

from oathfall.oaths import duties, in_force, owed_by, world_of
from oathfall.reading import reading, sure_by
from oathfall.roads import is_road, road

from samples import BACK, HELP, SHUN, SPARE, YES, cases, look, oath, owed, read_slowly, stands, turned

SIXTY_FIGURES = 10 ** 60 - 1

# Three duties, each of which looks at the one ahead of it.
CHAIN = world_of(2, [oath(), oath("shun", condition=look("help")), oath("spare", condition=look("shun"))])


# [15] by its words.
def is_one(world, row, broken, steps):
    both = read_slowly(world, row, broken)[1]
    for place, (duty, j) in enumerate(steps):
        ahead = [other for other, number in steps[:place]]
        if (duty, j) not in owed(world, len(row)):
            return False
        if not stands(world[1][j][3], row, broken, ahead, both, {"me": duty[1], "you": duty[2]}):
            return False
    return True


class Roads(unittest.TestCase):
    def check(self, world, row, broken, duty):
        told = road(world, row, broken, duty)
        self.assertEqual(told is not None, duty in reading(world, row, broken)[0], (world, row, broken, duty))
        if told is not None:
            self.assertIsInstance(told, list)
            for step in told:
                self.assertIsInstance(step, tuple)
                self.assertEqual(len(step), 2)
            walked = [other for other, j in told]
            self.assertEqual(walked[-1], duty)
            self.assertEqual(len(set(walked)), len(walked))
            self.assertIs(is_road(world, row, broken, told), True)
            self.assertTrue(is_one(world, row, broken, told), (world, row, broken, told))
        return told

    def test_of_one_step(self):
        self.assertEqual(self.check(world_of(2, [oath()]), [], [], HELP), [(HELP, 0)])
        self.assertEqual(self.check(world_of(2, [oath("shun"), oath(condition=turned("spare"))]), [], [], HELP)[-1],
                         (HELP, 1))

    def test_of_several_steps(self):
        self.assertEqual(self.check(CHAIN, [], [], SPARE), [(HELP, 0), (SHUN, 1), (SPARE, 2)])
        self.assertEqual(self.check(CHAIN, [], [], SHUN), [(HELP, 0), (SHUN, 1)])
        backwards = world_of(2, list(CHAIN[1][::-1]))
        self.assertEqual(self.check(backwards, [], [], SPARE), [(HELP, 2), (SHUN, 1), (SPARE, 0)])

    def test_none_of_a_duty_that_is_not_sure(self):
        self.assertIsNone(self.check(world_of(2, []), [], [], HELP))
        self.assertIsNone(self.check(CHAIN, [], [], BACK))
        self.assertIsNone(self.check(world_of(2, [oath(condition=turned("help"))]), [], [], HELP))
        self.assertIsNone(self.check(world_of(2, [oath(condition=look("help"))]), [], [], HELP))
        self.assertIsNone(self.check(world_of(2, [oath(end=0)]), [], [], HELP))
        self.assertIsNone(self.check(world_of(2, [oath(condition=("not", YES))]), [], [], HELP))

    def test_turned_looks_are_read_by_the_sure_and_the_open_ones(self):
        world = world_of(2, [oath(condition=turned("help")), oath("shun", condition=turned("help"))])
        self.assertIsNone(self.check(world, [], [], SHUN))
        world = world_of(2, [oath(), oath("shun", condition=turned("help")), oath("spare", condition=turned("shun"))])
        self.assertIsNone(self.check(world, [], [], SHUN))
        self.assertEqual(self.check(world, [], [], SPARE)[-1], (SPARE, 2))

    def test_not_round_by_the_duty_itself(self):
        world = world_of(2, [oath(condition=look("shun")), oath("shun", condition=look("help")), oath("shun")])
        told = self.check(world, [], [], HELP)
        self.assertEqual(told, [(SHUN, 2), (HELP, 0)])

    def test_by_the_row_and_the_broken_oaths(self):
        world = world_of(2, [
            oath(condition=("and", ("did", "warn", "you", "me"), ("broken", 0))), oath("shun", first=1, end=2),
        ])
        self.assertIsNone(self.check(world, [], [0], HELP))
        self.assertIsNone(self.check(world, [("warn", 1, 0)], [], HELP))
        self.assertEqual(self.check(world, [("warn", 1, 0)], [0], HELP)[-1], (HELP, 0))
        self.assertIsNone(self.check(world, [], [], SHUN))
        self.assertEqual(self.check(world, [("warn", 0, 1)], [], SHUN)[-1], (SHUN, 1))
        self.assertIsNone(self.check(world, [("warn", 0, 1)] * 2, [], SHUN))

    def test_the_last_step_is_by_an_oath_by_which_the_duty_is_sure(self):
        for world, row, broken in cases(61, 150):
            for duty in duties(world[0]):
                told = self.check(world, row, broken, duty)
                if told is not None:
                    self.assertIn(told[-1][1], sure_by(world, row, broken, duty))

    def test_six_lands_and_eight_oaths(self):
        for world, row, broken in cases(62, 3, (6,), 8, 6):
            for duty in duties(6)[::7]:
                self.check(world, row, broken, duty)


class IsRoad(unittest.TestCase):
    def yes(self, world, steps, row=(), broken=()):
        self.assertIs(is_road(world, list(row), list(broken), steps), True, steps)

    def no(self, world, steps, row=(), broken=()):
        self.assertIs(is_road(world, list(row), list(broken), steps), False, steps)

    def test_without_anything(self):
        for world in (CHAIN, world_of(1, []), world_of(6, []), world_of(2, [oath(condition=turned("help"))])):
            self.yes(world, [])

    def test_each_step_behind_those_it_looks_at(self):
        whole = [(HELP, 0), (SHUN, 1), (SPARE, 2)]
        for order in itertools.permutations(whole):
            self.assertIs(is_road(CHAIN, [], [], list(order)), list(order) == whole)
        for count in range(4):
            self.yes(CHAIN, whole[:count])
        self.no(CHAIN, whole[1:])
        self.no(CHAIN, [whole[0], whole[2]])

    def test_a_duty_twice(self):
        self.yes(CHAIN, [(HELP, 0), (HELP, 0)])
        self.yes(CHAIN, [(HELP, 0), (SHUN, 1), (HELP, 0), (SPARE, 2), (SHUN, 1)])
        self.no(CHAIN, [(SHUN, 1), (HELP, 0), (SHUN, 1)])

    def test_by_itself_it_does_not_stand_ahead(self):
        world = world_of(2, [oath(condition=look("help")), oath()])
        self.no(world, [(HELP, 0)])
        self.no(world, [(HELP, 0), (HELP, 1)])
        self.yes(world, [(HELP, 1), (HELP, 0)])

    def test_a_number_that_no_oath_has(self):
        for j in (-1, -2, -3, 3, 4, 8, SIXTY_FIGURES, -SIXTY_FIGURES):
            self.no(CHAIN, [(HELP, j)])
            self.no(CHAIN, [(HELP, 0), (SHUN, j)])
            self.no(world_of(2, []), [(HELP, j)])
        self.no(world_of(2, []), [(HELP, 0)])

    def test_a_duty_that_may_not_be_owed_by_the_oath(self):
        self.no(CHAIN, [(HELP, 1)])
        self.no(CHAIN, [(SHUN, 0)])
        self.no(CHAIN, [(BACK, 0)])
        self.no(CHAIN, [(HELP, 0), (SPARE, 1)])
        world = world_of(3, [oath("help", 3, 6)])
        for duty in duties(3):
            self.assertIs(is_road(world, [], [], [(duty, 0)]), 0 in owed_by(world, duty))

    def test_an_oath_that_is_not_in_force(self):
        row = [("warn", 0, 1)] * 16
        for first, end in itertools.product((0, 1, 2, 16), (None, 0, 1, 2, 16, 17)):
            one = oath(first=first, end=end)
            for k in (0, 1, 2, 15, 16):
                self.assertIs(is_road(world_of(2, [one]), row[:k], [], [(HELP, 0)]), in_force(one, k))

    def test_a_condition_that_does_not_hold(self):
        world = world_of(2, [oath(condition=("did", "warn", "you", "me")), oath("shun", condition=("broken", 1))])
        self.no(world, [(HELP, 0)])
        self.yes(world, [(HELP, 0)], [("warn", 1, 0)])
        self.no(world, [(HELP, 0)], [("warn", 0, 1)])
        self.no(world, [(SHUN, 1)])
        self.yes(world, [(SHUN, 1)], [], [1])

    def test_turned_looks_are_read_by_the_sure_and_the_open_ones(self):
        world = world_of(2, [oath(condition=turned("help")), oath("shun", condition=turned("help"))])
        self.no(world, [(HELP, 0)])
        self.no(world, [(SHUN, 1)])
        world = world_of(2, [oath(), oath("shun", condition=turned("help")), oath("spare", condition=turned("shun"))])
        self.no(world, [(SHUN, 1)])
        self.yes(world, [(SPARE, 2)])
        self.yes(world, [(SPARE, 2), (HELP, 0)])

    def test_me_is_the_duties_first_land_and_you_its_second(self):
        world = world_of(2, [oath("help", 3, 3, ("among", "me", 1))])
        self.yes(world, [(HELP, 0)])
        self.no(world, [(BACK, 0)])
        world = world_of(2, [oath("help", 3, 3, ("among", "you", 1))])
        self.no(world, [(HELP, 0)])
        self.yes(world, [(BACK, 0)])

    def drawn_steps(self, draw, world, row, broken):
        """Roads with a step left out, doubled, exchanged or brought elsewhere, and steps at will."""
        sure = reading(world, row, broken)[0]
        steps = road(world, row, broken, draw.choice(sure)) if sure else []
        others = [(duty, j) for duty in duties(world[0]) for j in range(-1, len(world[1]) + 1)]
        for change in range(draw.randrange(3)):
            kind = draw.randrange(4)
            if kind == 0 and steps:
                steps.pop(draw.randrange(len(steps)))
            if kind == 1 and steps:
                steps.insert(draw.randrange(len(steps) + 1), draw.choice(steps))
            if kind == 2 and others:
                fitting = [step for step in others if step[1] in owed_by(world, step[0])]
                steps.insert(draw.randrange(len(steps) + 1), draw.choice(draw.choice([fitting, others]) or others))
            if kind == 3:
                draw.shuffle(steps)
        return steps

    def test_many_lists(self):
        draw = random.Random(63)
        told = []
        for world, row, broken in cases(63, 300):
            for each in range(5):
                steps = self.drawn_steps(draw, world, row, broken)
                kept = list(steps)
                told.append(is_road(world, row, broken, steps))
                self.assertEqual(steps, kept)
                self.assertIs(told[-1], is_one(world, row, broken, steps), (world, row, broken, steps))
                if told[-1]:
                    sure = reading(world, row, broken)[0]
                    self.assertLessEqual({duty for duty, j in steps}, set(sure))
        self.assertGreater(told.count(False), 100)
        self.assertGreater(told.count(True), 300)


class NothingIsShared(unittest.TestCase):
    def test_what_is_handed_in_is_not_changed(self):
        for world, row, broken in cases(64, 40):
            kept = (list(row), list(broken))
            for duty in duties(world[0]):
                steps = road(world, row, broken, duty) or []
                kept_steps = list(steps)
                is_road(world, row, broken, steps)
                self.assertEqual(steps, kept_steps)
            self.assertEqual((row, broken), kept)

    def test_what_is_told_is_the_askers_own(self):
        first = road(CHAIN, [], [], SPARE)
        road(CHAIN, [], [], SPARE).clear()
        self.assertEqual(road(CHAIN, [], [], SPARE), first)
        self.assertEqual(first, [(HELP, 0), (SHUN, 1), (SPARE, 2)])
        road(CHAIN, [], [], SHUN)
        self.assertEqual(first, [(HELP, 0), (SHUN, 1), (SPARE, 2)])


if __name__ == "__main__":
    unittest.main()
