import itertools
import random
import unittest

from oathfall.clauses import View, holds
from oathfall.looks import looks, ring
from oathfall.oaths import duties, in_force, owed_by, world_of
from oathfall.reading import made, reading, rounds, sure_by

from samples import (
    BACK, HELP, SHUN, SPARE, YES, all_duties, cases, drawn_row, exchanged, holding, look, made_slowly, oath, owed,
    read_slowly, turned, wiped,
)


def sets_of(things):
    for count in range(len(things) + 1):
        for each in itertools.combinations(things, count):
            yield frozenset(each)


# HELP is sure at once; SHUN looks turned at it, SPARE looks turned at SHUN.
CHAIN = world_of(2, [oath(), oath("shun", condition=turned("help")), oath("spare", condition=turned("shun"))])
# Each of two hangs on the other one not standing.
EACH_OTHER = world_of(2, [oath("help", 3, 3, turned("help", "you", "me"))])


class Made(unittest.TestCase):
    def test_without_oaths(self):
        for n in range(1, 7):
            self.assertEqual(made(world_of(n, []), [], [], duties(n)), [])

    def test_each_maker_to_each_ward_another_land(self):
        world = world_of(3, [oath("shun", 3, 7)])
        told = [("shun", 0, 1), ("shun", 0, 2), ("shun", 1, 0), ("shun", 1, 2)]
        self.assertEqual(made(world, [], [], []), told)

    def test_makers_or_wards_that_are_none(self):
        for makers, wards in ((0, 3), (3, 0), (0, 0), (2, 2)):
            self.assertEqual(made(world_of(2, [oath("help", makers, wards)]), [], [], []), [])
        self.assertEqual(made(world_of(1, [oath("help", 1, 1)]), [], [], []), [])

    def test_me_is_the_maker_and_you_the_ward(self):
        world = world_of(3, [oath("help", 7, 7, ("and", ("among", "me", 1), ("among", "you", 4)))])
        self.assertEqual(made(world, [], [], []), [("help", 0, 2)])

    def test_oaths_in_force_alone(self):
        row = [("warn", 0, 1)] * 16
        for first, end in itertools.product(range(17), [None, *range(18)]):
            world = world_of(2, [oath(first=first, end=end)])
            for k in (0, 1, 2, 15, 16):
                stands = first <= k and (end is None or k < end)
                self.assertEqual(made(world, row[:k], [], []), [HELP] if stands else [])

    def test_deeds_of_the_row(self):
        world = world_of(2, [oath("help", 3, 3, ("did", "strike", "you", "me"))])
        self.assertEqual(made(world, [], [], []), [])
        self.assertEqual(made(world, [("strike", 0, 1)], [], []), [BACK])
        self.assertEqual(made(world, [("strike", 0, 1), ("peace", 1, 0)], [], []), [])
        world = world_of(2, [oath("help", 3, 3, ("began", "me", "you"))])
        self.assertEqual(made(world, [("strike", 1, 0), ("strike", 0, 1)], [], []), [BACK])

    def test_broken_oaths_its_own_too(self):
        world = world_of(2, [oath(condition=("broken", 0)), oath("shun", condition=("not", ("broken", 0)))])
        self.assertEqual(made(world, [], [], []), [SHUN])
        self.assertEqual(made(world, [], [0], []), [HELP])
        self.assertEqual(made(world, [], [1, 0, 0], []), [HELP])
        self.assertEqual(made(world, [], [1], []), [SHUN])

    def test_the_span_and_the_knowers_do_not_matter(self):
        for span, knowers in itertools.product((1, 9), range(4)):
            self.assertEqual(made(world_of(2, [oath(span=span, knowers=knowers)]), [], [], []), [HELP])

    def test_a_some_without_lands(self):
        self.assertEqual(made(world_of(2, [oath(condition=("some", 0, YES))]), [], [], []), [])
        self.assertEqual(made(world_of(2, [oath(condition=("not", ("some", 0, YES)))]), [], [], []), [HELP])

    def test_looks_that_are_not_turned_are_read_by_what_is_made(self):
        world = world_of(2, [oath("shun", condition=look("help")), oath()])
        self.assertEqual(made(world, [], [], []), [HELP, SHUN])
        world = world_of(2, [oath("shun", condition=look("help"))])
        self.assertEqual(made(world, [], [], [HELP]), [])
        world = world_of(2, [oath("shun", condition=("not", turned("help"))), oath()])
        self.assertEqual(made(world, [], [], []), [HELP, SHUN])

    def test_the_least_set(self):
        world = world_of(2, [oath(condition=look("help"))])
        self.assertEqual(made(world, [], [], [HELP]), [])
        world = world_of(2, [oath(condition=look("shun")), oath("shun", condition=look("help"))])
        self.assertEqual(made(world, [], [], [HELP, SHUN]), [])

    def test_turned_looks_are_read_by_the_set_handed_in(self):
        world = world_of(2, [oath("shun", condition=turned("help")), oath()])
        self.assertEqual(made(world, [], [], []), [HELP, SHUN])
        self.assertEqual(made(world, [], [], [HELP]), [HELP])
        self.assertEqual(made(world, [], [], [HELP, HELP, SPARE]), [HELP])
        world = world_of(2, [oath(condition=turned("help"))])
        self.assertEqual(made(world, [], [], []), [HELP])
        self.assertEqual(made(world, [], [], [HELP]), [])

    def test_a_long_way_whatever_the_order_of_the_oaths(self):
        names = [(duty, a, b) for duty in ("help", "spare", "shun") for a, b in ((0, 1), (1, 0))]
        handed = [oath(names[0][0], 1, 2)]
        for ahead, (duty, a, b) in zip(names, names[1:]):
            handed.append(oath(duty, 1 << a, 1 << b, look(*ahead)))
        for order in (handed, handed[::-1], handed[::2] + handed[1::2]):
            self.assertEqual(made(world_of(2, order), [], [], []), sorted(names))
        self.assertEqual(made(world_of(2, handed[1:]), [], [], []), [])
        self.assertEqual(made(world_of(2, handed[:3] + handed[4:]), [], [], []), sorted(names[:3]))

    def test_by_two_oaths_it_is_told_once(self):
        self.assertEqual(made(world_of(2, [oath(), oath(), oath(condition=look("help"))]), [], [], []), [HELP])

    def test_the_least_of_all_sets_that_have_what_they_make(self):
        draw = random.Random(41)
        for world, row, broken in cases(41, 200, (2,), 4):
            mine = sorted({duty for duty, j in owed(world, len(row))})
            some = [duty for duty in all_duties(2) if draw.random() < 0.5]
            closed = [each for each in sets_of(mine)
                      if each >= {duty for duty, j in holding(world, row, broken, each, some)}]
            least = sorted(frozenset.intersection(*closed))
            self.assertEqual(made(world, row, broken, some + some[:1]), least, (world, row, broken, some))

    def test_many_worlds(self):
        draw = random.Random(42)
        for world, row, broken in cases(42, 250):
            for share in (0, 0.3, 0.7, 1):
                some = [duty for duty in all_duties(world[0]) if draw.random() < share]
                draw.shuffle(some)
                self.assertEqual(made(world, row, broken, some), made_slowly(world, row, broken, some))


class Rounds(unittest.TestCase):
    def test_without_oaths_or_with_one_land(self):
        for n in range(1, 7):
            self.assertEqual(rounds(world_of(n, []), [], []), [[], [], []])
        self.assertEqual(rounds(world_of(1, [oath("help", 1, 1)]), [], []), [[], [], []])

    def test_each_up_to_the_first_that_is_the_same_two_places_ahead(self):
        self.assertEqual(rounds(world_of(2, [oath()]), [], []), [[], [HELP], [HELP], [HELP]])
        self.assertEqual(rounds(EACH_OTHER, [], []), [[], [HELP, BACK], []])
        self.assertEqual(rounds(CHAIN, [], []), [
            [], [HELP, SHUN, SPARE], [HELP], [HELP, SPARE], [HELP, SPARE], [HELP, SPARE],
        ])
        world = world_of(2, [oath("shun", condition=turned("help")), oath()])
        self.assertEqual(rounds(world, [], []), [[], [HELP, SHUN], [HELP], [HELP], [HELP]])

    def test_by_the_row_and_the_broken_oaths(self):
        world = world_of(2, [oath(condition=("and", ("did", "warn", "you", "me"), ("broken", 0)))])
        self.assertEqual(rounds(world, [("warn", 1, 0)], [0]), [[], [HELP], [HELP], [HELP]])
        self.assertEqual(rounds(world, [("warn", 1, 0)], []), [[], [], []])
        self.assertEqual(rounds(world, [], [0]), [[], [], []])

    def test_many_worlds(self):
        lengths = set()
        for world, row, broken in cases(43, 400):
            told = rounds(world, row, broken)
            lengths.add(len(told))
            self.assertEqual(told[0], [])
            self.assertGreater(len(told), 2)
            for ahead, behind in zip(told, told[1:]):
                self.assertEqual(behind, made(world, row, broken, ahead))
            same = [place for place in range(2, len(told)) if told[place] == told[place - 2]]
            self.assertEqual(same, [len(told) - 1])
            for place in range(2, len(told)):
                one, other = set(told[place - 2]), set(told[place])
                self.assertTrue(one <= other if place % 2 == 0 else one >= other)
        self.assertGreaterEqual(lengths, {3, 4, 5})


class Readings(unittest.TestCase):
    def test_without_oaths_or_with_one_land(self):
        for n in range(1, 7):
            self.assertEqual(reading(world_of(n, []), [], []), ([], []))
        self.assertEqual(reading(world_of(1, [oath("help", 1, 1)]), [], []), ([], []))

    def test_sure_open_and_none(self):
        self.assertEqual(reading(world_of(2, [oath()]), [], []), ([HELP], []))
        self.assertEqual(reading(CHAIN, [], []), ([HELP, SPARE], []))
        self.assertEqual(reading(EACH_OTHER, [], []), ([], [HELP, BACK]))
        self.assertEqual(reading(world_of(2, [oath(condition=turned("help"))]), [], []), ([], [HELP]))
        self.assertEqual(reading(world_of(2, [oath(condition=look("help"))]), [], []), ([], []))

    def test_what_looks_at_an_open_one_is_open_unless_it_is_sure_otherwise(self):
        world = world_of(2, [
            oath("help", 3, 3, turned("help", "you", "me")), oath("shun", 1, 2, look("help")),
            oath("spare", 1, 2, turned("help")), oath("shun", 2, 1), oath("spare", 2, 1, ("and", YES, look("shun"))),
        ])
        self.assertEqual(reading(world, [], []), (
            [("shun", 1, 0), ("spare", 1, 0)], [HELP, BACK, SHUN, SPARE],
        ))

    def test_a_broken_ring_is_read_as_sure(self):
        world = world_of(2, [oath("help", 3, 3, turned("help", "you", "me")), oath("help", 1, 2)])
        self.assertEqual(reading(world, [], []), ([HELP], []))

    def test_rounds_that_end_at_either_place(self):
        for world in (CHAIN, EACH_OTHER, world_of(2, [oath()]),
                      world_of(2, [oath("shun", condition=turned("help")), oath()])):
            told = rounds(world, [], [])
            sure, both = (told[-1], told[-2]) if len(told) % 2 else (told[-2], told[-1])
            self.assertEqual(reading(world, [], []), (sure, sorted(set(both) - set(sure))))

    def test_an_oath_not_in_force_changes_nothing(self):
        for first, end in ((1, None), (0, 0), (16, 17)):
            world = world_of(2, [oath(first=first, end=end), oath("shun", condition=turned("help"))])
            self.assertEqual(reading(world, [], []), ([SHUN], []))

    def test_many_worlds(self):
        opened = 0
        for world, row, broken in cases(44, 500):
            sure, both = read_slowly(world, row, broken)
            read = reading(world, row, broken)
            self.assertEqual(read, (sure, [duty for duty in both if duty not in sure]), (world, row, broken))
            self.assertIsInstance(read, tuple)
            opened += read[1] != []
            told = rounds(world, row, broken)
            self.assertIn(sure, told[-2:])
            self.assertIn(both, told[-2:])
            self.assertLessEqual(set(sure), set(both))
        self.assertGreater(opened, 15)

    def test_the_least_that_makes_itself_by_what_it_makes(self):
        for world, row, broken in cases(45, 60, (2,), 4, 3):
            mine = sorted({duty for duty, j in owed(world, len(row))})
            makes = {each: frozenset(made_slowly(world, row, broken, each)) for each in sets_of(mine)}
            same = [each for each in makes if makes[makes[each]] == each]
            least, most = frozenset.intersection(*same), frozenset.union(*same)
            self.assertEqual(reading(world, row, broken), (sorted(least), sorted(most - least)))

    def test_six_lands_and_eight_oaths(self):
        for world, row, broken in cases(46, 6, (6,), 8, 6):
            sure, both = read_slowly(world, row, broken)
            self.assertEqual(reading(world, row, broken), (sure, [duty for duty in both if duty not in sure]))

    def test_a_full_world_behind_a_full_row(self):
        every = 63
        leaves = ("or", ("did", "refuse", "who", "you"), ("did", "call", "me", "who"))
        condition = ("some", every, ("some", every, ("or", leaves, ("or", ("broken", 7), look("shun", "who", "you")))))
        world = world_of(6, [oath(duty, every, every, condition) for duty in ("help", "shun", "spare", "help") * 2])
        row = [("strike", turn % 6, (turn + 1) % 6) for turn in range(16)]
        self.assertEqual(reading(world, row, []), ([], []))
        self.assertEqual(reading(world, row, [7]), (duties(6), []))


class SureBy(unittest.TestCase):
    def test_each_oath_by_which_it_is_sure(self):
        world = world_of(2, [
            oath(), oath(condition=("not", YES)), oath("shun"), oath(end=0), oath(condition=look("shun")),
            oath("help", 2, 1),
        ])
        self.assertEqual(sure_by(world, [], [], HELP), [0, 4])
        self.assertEqual(sure_by(world, [], [], SHUN), [2])
        self.assertEqual(sure_by(world, [], [], BACK), [5])
        self.assertEqual(sure_by(world, [], [], SPARE), [])

    def test_none_of_an_open_duty(self):
        self.assertEqual(sure_by(EACH_OTHER, [], [], HELP), [])
        world = world_of(2, [oath(condition=turned("help")), oath("shun", condition=look("help"))])
        self.assertEqual(sure_by(world, [], [], SHUN), [])

    def test_a_look_at_itself_is_read_by_the_sure_duties(self):
        world = world_of(2, [oath(), oath(condition=look("help")), oath(condition=turned("help"))])
        self.assertEqual(sure_by(world, [], [], HELP), [0, 1])

    def test_turned_looks_are_read_by_the_sure_and_the_open_ones(self):
        world = world_of(2, [oath(condition=turned("help")), oath("shun", condition=turned("help")), oath("shun")])
        self.assertEqual(sure_by(world, [], [], SHUN), [2])

    def test_by_the_row_and_the_broken_oaths(self):
        world = world_of(2, [
            oath(condition=("did", "call", "you", "me")), oath(condition=("broken", 1)), oath(first=1), oath(end=1),
        ])
        self.assertEqual(sure_by(world, [], [], HELP), [3])
        self.assertEqual(sure_by(world, [("call", 1, 0)], [], HELP), [0, 2])
        self.assertEqual(sure_by(world, [], [1], HELP), [1, 3])
        self.assertEqual(sure_by(world, [("call", 1, 0)], [1], HELP), [0, 1, 2])

    def test_without_oaths(self):
        for duty in duties(3):
            self.assertEqual(sure_by(world_of(3, []), [], [], duty), [])

    def test_many_worlds(self):
        for world, row, broken in cases(47, 300):
            sure, opened = reading(world, row, broken)
            view = View(row, sure, sure + opened, broken)
            for duty in duties(world[0]):
                told = sure_by(world, row, broken, duty)
                self.assertEqual(told != [], duty in sure, (world, row, broken, duty))
                asked = [
                    j for j in owed_by(world, duty)
                    if in_force(world[1][j], len(row)) and holds(world[1][j][3], view, duty[1], duty[2])
                ]
                self.assertEqual(told, asked)


# An oath in the place of which nothing is owed.
BLANK = ("help", 0, 0, YES, 1, 0, None, 0)


class TheWhole(unittest.TestCase):
    def reached(self, world, duty):
        """The duty and all that it looks at, in however many steps."""
        told, ahead = [duty], [duty]
        while ahead:
            for other, is_turned in looks(world, ahead.pop()):
                if other not in told:
                    told.append(other)
                    ahead.append(other)
        return told

    def test_what_does_not_look_at_an_oaths_duties_stays_when_it_is_taken_out(self):
        stayed = 0
        for world, row, broken in cases(48, 120):
            read = reading(world, row, broken)
            for j in range(len(world[1])):
                less = world_of(world[0], list(world[1][:j]) + [BLANK] + list(world[1][j + 1:]))
                others = reading(less, row, broken)
                for duty in duties(world[0]):
                    if all(j not in owed_by(world, other) for other in self.reached(world, duty)):
                        stayed += 1
                        self.assertEqual(duty in others[0], duty in read[0])
                        self.assertEqual(duty in others[1], duty in read[1])
        self.assertGreater(stayed, 500)

    def test_lands_exchanged_exchange_all(self):
        for world, row, broken in cases(49, 150, (2, 3)):
            for lands in itertools.permutations(range(world[0])):
                other = world_of(world[0], [exchanged(one, lands) for one in world[1]])
                other_row = [exchanged(deed, lands) for deed in row]
                read = reading(world, row, broken)
                told = tuple([sorted([exchanged(duty, lands) for duty in part]) for part in read])
                self.assertEqual(reading(other, other_row, broken), told)
                self.assertEqual(ring(other) is None, ring(world) is None)
                for duty in duties(world[0]):
                    self.assertEqual(sure_by(other, other_row, broken, exchanged(duty, lands)),
                                     sure_by(world, row, broken, duty))

    def test_the_order_of_the_oaths_does_not_matter(self):
        draw = random.Random(50)
        for world, row, broken in cases(50, 150):
            order = list(range(len(world[1])))
            draw.shuffle(order)
            mixed = []
            for j in order:
                mixed.append(world[1][j][:3] + (renumbered(world[1][j][3], order),) + world[1][j][4:])
            other = world_of(world[0], mixed)
            other_broken = [order.index(j) for j in broken]
            self.assertEqual(reading(other, row, other_broken), reading(world, row, broken))


def renumbered(condition, order):
    if condition[0] == "broken":
        return ("broken", order.index(condition[1]))
    return tuple([renumbered(part, order) if isinstance(part, tuple) else part for part in condition])


class NothingIsShared(unittest.TestCase):
    def ask(self, world, row, broken, some):
        told = [made(world, row, broken, some), rounds(world, row, broken), reading(world, row, broken)]
        return told + [sure_by(world, row, broken, duty) for duty in duties(world[0])]

    def test_what_is_handed_in_is_not_changed(self):
        draw = random.Random(51)
        for world, row, broken in cases(51, 60):
            some = draw.sample(all_duties(world[0]), k=len(all_duties(world[0])) // 2) * 2
            kept = (list(row), list(broken), list(some))
            self.ask(world, row, broken, some)
            self.assertEqual((row, broken, some), kept)

    def test_what_is_told_is_the_askers_own(self):
        for world in (CHAIN, EACH_OTHER, world_of(2, [oath()])):
            first = self.ask(world, [], [], [HELP])
            again = self.ask(world, [], [], [HELP])
            self.assertEqual(first, again)
            wiped(again)
            self.assertEqual(self.ask(world, [], [], [HELP]), first)

    def test_no_two_lists_told_are_one(self):
        for world in (CHAIN, EACH_OTHER, world_of(2, []), world_of(2, [oath()])):
            told = rounds(world, [], [])
            told += reading(world, [], [])
            for one, other in itertools.combinations(told, 2):
                self.assertIsNot(one, other)

    def test_what_is_handed_in_and_changed_later_is_read_anew(self):
        world = world_of(2, [oath(condition=("did", "warn", "me", "you")), oath("shun", condition=("broken", 0))])
        row, broken = [], []
        self.assertEqual(reading(world, row, broken), ([], []))
        row.append(("warn", 0, 1))
        self.assertEqual(reading(world, row, broken), ([HELP], []))
        broken.append(0)
        self.assertEqual(reading(world, row, broken), ([HELP, SHUN], []))
        row.clear()
        self.assertEqual(reading(world, row, broken), ([SHUN], []))

    def test_the_order_of_questions_does_not_matter(self):
        asked = list(cases(52, 30))
        first = [reading(*case) for case in asked]
        again = [reading(*case) for case in reversed(asked)]
        self.assertEqual(first, again[::-1])

    def test_a_longer_row_is_read_as_well(self):
        row = drawn_row(random.Random(1), 2, 40) + [("warn", 0, 1)] * 20
        self.assertEqual(reading(world_of(2, [oath(), oath("shun", end=17)]), row, []), ([HELP], []))


if __name__ == "__main__":
    unittest.main()
