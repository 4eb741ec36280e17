import itertools
import random
import unittest

from oathfall.errors import TooMany
from oathfall.falls import draws, drawn, fall, follows
from oathfall.oaths import world_of
from oathfall.times import breaches, read, waits

from samples import BACK, HELP, Story, exchanged, histories, look, oath, turned, wiped

WARN = ("warn", 0, 1)
STRIKE = ("strike", 0, 1)


def helps(*pairs):
    return [("help", a, b) for a, b in pairs]


# Two helps wait from turn 0 on, two others from turn 2 on, and so on: the fall behind no deeds has 16 deeds, the last
# at the last turn that a row may have. Land 5 owes nothing.
FULL_WARDS = [(0, 1, 2), (1, 2, 3), (2, 3, 4), (3, 4, 5), (4, 0, 5), (0, 3, 4), (1, 4, 5), (2, 0, 5)]
FULL = [oath("help", 1 << a, 1 << b | 1 << c, span=9, first=2 * j) for j, (a, b, c) in enumerate(FULL_WARDS)]
FULL_FALL = [("help", a, b) for a, *wards in FULL_WARDS for b in wards]


def when(word, x, y):
    return ("did", word, x, y)


class Falls(unittest.TestCase):
    def test_without_oaths_or_with_one_land(self):
        for n in range(1, 7):
            self.assertEqual(fall(world_of(n, []), []), [])
        self.assertEqual(fall(world_of(1, [oath("help", 1, 1)]), []), [])
        self.assertEqual(fall(world_of(2, []), [WARN] * 16), [])

    def test_what_waits_is_done_once(self):
        world = world_of(2, [oath(span=9)])
        self.assertEqual(fall(world, []), [HELP])
        self.assertEqual(fall(world, [WARN] * 8), [HELP])
        self.assertEqual(fall(world, [WARN] * 9), [])
        self.assertEqual(fall(world, [HELP]), [])

    def test_by_the_due_turn_first(self):
        world = world_of(3, [oath("help", 1, 2, span=3), oath("help", 2, 4, span=1), oath("help", 4, 1, span=2)])
        self.assertEqual(fall(world, []), helps((1, 2), (2, 0), (0, 1)))

    def test_then_by_the_lands(self):
        world = world_of(3, [oath("help", 4, 3, span=9), oath("help", 2, 5, span=9), oath("help", 1, 6, span=9)])
        self.assertEqual(fall(world, []), helps((0, 1), (0, 2), (1, 0), (1, 2), (2, 0), (2, 1)))

    def test_by_the_due_turn_not_by_the_span(self):
        world = world_of(3, [oath("help", 1, 2, span=5), oath("help", 1, 4, span=4, first=2)])
        self.assertEqual(fall(world, [WARN] * 2), helps((0, 1), (0, 2)))
        world = world_of(3, [oath("help", 1, 2, span=5), oath("help", 1, 4, span=2, first=2)])
        self.assertEqual(fall(world, [WARN] * 2), helps((0, 2), (0, 1)))

    def test_a_help_does_all_oaths_of_its_two_lands(self):
        world = world_of(3, [oath(span=9), oath(span=3), oath("help", 1, 4, span=5)])
        self.assertEqual(fall(world, []), helps((0, 1), (0, 2)))

    def test_one_help_leads_to_another(self):
        world = world_of(4, [
            oath("help", 1, 2, when("strike", 3, "you")), oath("help", 4, 1, when("help", "you", 1)),
            oath("help", 8, 4, when("help", "you", 0)),
        ])
        self.assertEqual(fall(world, []), [])
        self.assertEqual(fall(world, [("strike", 3, 1)]), helps((0, 1), (2, 0), (3, 2)))

    def test_a_help_may_let_go_of_what_waits(self):
        world = world_of(3, [oath("help", 1, 2), oath("help", 4, 2, ("not", when("help", 0, 1)), 2)])
        self.assertEqual(fall(world, []), [HELP])

    def test_shunned_ones_are_passed_over(self):
        world = world_of(3, [oath("help", 1, 6, span=9), oath("shun", 1, 2)])
        self.assertEqual(fall(world, []), helps((0, 2)))
        self.assertEqual(fall(world_of(2, [oath(), oath("shun")]), []), [])
        self.assertEqual(fall(world_of(2, [oath(), oath("shun")]), [WARN] * 16), [])

    def test_another_shun_or_an_open_one_does_not_matter(self):
        for shun in (oath("shun", 2, 1), oath("shun", 1, 4), oath("shun", 1, 2, turned("shun")), oath("spare", 1, 2)):
            self.assertEqual(fall(world_of(3, [oath(), shun]), []), [HELP])

    def test_what_is_shunned_for_a_time(self):
        # The help of 2 ends the shun; what waits since then is done.
        world = world_of(3, [
            oath("help", 1, 2, span=9), oath("shun", 1, 2, ("not", when("help", 2, 1))), oath("help", 4, 2, span=5),
        ])
        self.assertEqual(fall(world, []), helps((2, 1), (0, 1)))
        world = world_of(3, [oath("help", 1, 2, span=9), oath("shun", 1, 2, end=1), oath("help", 4, 2, span=9)])
        self.assertEqual(fall(world, []), helps((2, 1), (0, 1)))
        # It ends where only what is shunned waits, though it would be free later.
        world = world_of(2, [oath("help", 1, 2, span=9), oath("shun", 1, 2, end=1)])
        self.assertEqual(fall(world, []), [])

    def test_a_fall_may_have_breaches(self):
        world = world_of(3, [oath("help", 1, 6), oath("help", 2, 1, span=2)])
        told = fall(world, [])
        self.assertEqual(told, helps((0, 1), (1, 0)))
        self.assertEqual(breaches(world, told), [(1, 0, 0, 2, 0)])

    def test_what_follows_of_a_breach_in_a_fall(self):
        world = world_of(3, [oath("help", 1, 6), oath("help", 2, 1, span=2), oath("help", 4, 1, ("broken", 0))])
        self.assertEqual(fall(world, []), helps((0, 1), (1, 0), (2, 0)))

    def test_a_help_makes_the_other_land_wait(self):
        world = world_of(2, [oath("help", 3, 3, when("help", "you", "me"), span=9)])
        self.assertEqual(fall(world, [HELP]), [BACK, HELP])

    def test_exactly_16_deeds(self):
        world = world_of(6, FULL)
        self.assertEqual(len(FULL_FALL), 16)
        for k in range(17):
            self.assertEqual(fall(world, FULL_FALL[:k]), FULL_FALL[k:])
        self.assertEqual(fall(world_of(2, [oath(first=15)]), [WARN] * 15), [HELP])

    def test_more_than_16_deeds_are_refused(self):
        world = world_of(6, FULL)
        for k in range(16):
            with self.assertRaises(TooMany):
                fall(world, FULL_FALL[:k] + [WARN] + FULL_FALL[k:15])
        one_more = world_of(6, FULL[:7] + [FULL[7][:2] + (1 | 2 | 32,) + FULL[7][3:]])
        with self.assertRaises(TooMany):
            fall(one_more, [])
        one_less = world_of(6, FULL[:7] + [FULL[7][:2] + (32,) + FULL[7][3:]])
        self.assertEqual(len(fall(one_less, [])), 15)

    def test_a_full_row(self):
        for more, expected in ((oath(first=16), None), (oath(first=16, end=16), []), (oath("shun", first=16), [])):
            world = world_of(2, [more])
            if expected is None:
                with self.assertRaises(TooMany):
                    fall(world, [WARN] * 16)
            else:
                self.assertEqual(fall(world, [WARN] * 16), expected)
        self.assertEqual(fall(world_of(2, [oath(first=16), oath("shun")]), [WARN] * 16), [])

    def test_a_longer_row_with_nothing_to_be_done(self):
        self.assertEqual(fall(world_of(2, [oath()]), [WARN] * 17), [])
        with self.assertRaises(TooMany):
            fall(world_of(2, [oath(span=9, first=16)]), [WARN] * 17)


class Follows(unittest.TestCase):
    def test_the_deed_and_the_fall(self):
        world = world_of(3, [oath("help", 1, 2, when("strike", 2, "you"), 2), oath("help", 2, 1, span=9)])
        self.assertEqual(follows(world, [], ("strike", 2, 1)), [("strike", 2, 1)] + helps((0, 1), (1, 0)))
        self.assertEqual(follows(world, [], WARN), [WARN, BACK])
        self.assertEqual(follows(world, [BACK], WARN), [WARN])

    def test_without_oaths(self):
        self.assertEqual(follows(world_of(2, []), [], STRIKE), [STRIKE])

    def test_a_deed_that_does_what_waits(self):
        self.assertEqual(follows(world_of(2, [oath()]), [], HELP), [HELP])
        self.assertEqual(follows(world_of(2, [oath()]), [], WARN), [WARN])
        self.assertEqual(follows(world_of(2, [oath(span=2)]), [], WARN), [WARN, HELP])

    def test_a_deed_that_ends_a_row(self):
        world = world_of(2, [oath("help", 2, 1, when("strike", 0, 1))])
        self.assertEqual(follows(world, [WARN] * 14, STRIKE), [STRIKE, BACK])
        self.assertEqual(follows(world, [WARN] * 15, WARN), [WARN])
        with self.assertRaises(TooMany):
            follows(world, [WARN] * 15, STRIKE)

    def test_a_17th_deed_is_refused(self):
        for world in (world_of(2, []), world_of(2, [oath()])):
            for k in (16, 17):
                with self.assertRaises(TooMany):
                    follows(world, [WARN] * k, WARN)

    def test_a_fall_of_exactly_16_deeds_with_the_deed_and_one_beyond(self):
        self.assertEqual(follows(world_of(6, FULL), [], HELP), FULL_FALL)
        with self.assertRaises(TooMany):
            follows(world_of(6, FULL), [], WARN)


class Drawn(unittest.TestCase):
    def test_without_oaths_or_with_one_land(self):
        for n in range(1, 7):
            self.assertEqual(drawn(world_of(n, []), []), [])
        self.assertEqual(drawn(world_of(1, [oath("help", 1, 1)]), []), [])

    def test_lands_with_a_sure_duty_to_help(self):
        world = world_of(6, [oath("help", 40, 7), oath("help", 2, 4), oath("shun", 1, 2), oath("spare", 16, 2)])
        self.assertEqual(drawn(world, []), [1, 3, 5])

    def test_an_open_duty_does_not_draw_in(self):
        self.assertEqual(drawn(world_of(2, [oath("help", 3, 3, turned("help", "you", "me"))]), []), [])

    def test_whether_it_waits_does_not_matter(self):
        world = world_of(2, [oath()])
        for row in ([], [HELP], [WARN], [HELP] * 3):
            self.assertEqual(drawn(world, row), [0])

    def test_by_the_deeds_and_the_breaches(self):
        world = world_of(3, [oath("spare"), oath("help", 4, 2, ("broken", 0)), oath("help", 2, 1, when("warn", 0, 1))])
        self.assertEqual(drawn(world, [STRIKE]), [])
        self.assertEqual(drawn(world, [STRIKE, STRIKE]), [2])
        self.assertEqual(drawn(world, [STRIKE, WARN]), [1, 2])


class Draws(unittest.TestCase):
    def test_most_0(self):
        world = world_of(3, [oath(span=2), oath("help", 4, 1, when("help", 0, 1))])
        self.assertEqual(draws(world, [], 0, [WARN], 0), ([], [HELP, ("help", 2, 0)]))
        self.assertEqual(draws(world, [], 2, [WARN], 0), ([], [HELP, ("help", 2, 0)]))
        self.assertIsNone(draws(world, [], 1, [HELP], 0))
        self.assertEqual(draws(world, [HELP, ("help", 2, 0)], 2, [WARN], 0), ([], []))

    def test_without_oaths_or_with_open_ones_alone(self):
        for most in (0, 1, 2):
            self.assertIsNone(draws(world_of(2, []), [], 0, [WARN, STRIKE, HELP], most))
            world = world_of(2, [oath("help", 3, 3, turned("help", "you", "me"))])
            self.assertIsNone(draws(world, [], 0, [WARN], most))

    def test_the_first_deed_that_draws_in(self):
        world = world_of(3, [oath("help", 4, 2, ("or", when("call", 0, 1), when("strike", 0, 1)), 2)])
        told = [("help", 2, 1)]
        self.assertEqual(draws(world, [], 2, [WARN, STRIKE, ("call", 0, 1)], 1), ([STRIKE], told))
        self.assertEqual(draws(world, [], 2, [WARN, ("call", 0, 1), STRIKE], 1), ([("call", 0, 1)], told))
        self.assertIsNone(draws(world, [], 2, [WARN, ("strike", 1, 0)], 1))
        self.assertIsNone(draws(world, [], 0, [WARN, STRIKE], 1))

    def test_shorter_ones_first(self):
        both = ("and", when("call", 0, 1), when("warn", 0, 1))
        world = world_of(3, [oath("help", 4, 2, ("or", both, when("strike", 0, 1)))])
        self.assertEqual(draws(world, [], 2, [WARN, ("call", 0, 1), STRIKE], 2)[0], [STRIKE])
        self.assertEqual(draws(world, [], 2, [WARN, ("call", 0, 1)], 2)[0], [WARN, ("call", 0, 1)])
        self.assertEqual(draws(world, [], 2, [("call", 0, 1), WARN], 2)[0], [("call", 0, 1), WARN])
        self.assertIsNone(draws(world, [], 2, [("call", 0, 1), WARN], 1))
        self.assertEqual(draws(world, [WARN], 2, [("pass", 0, 1), ("call", 0, 1)], 2)[0], [("call", 0, 1)])

    def test_those_as_long_in_the_order_of_the_places(self):
        # Any row of two deeds whose first one is the strike.
        world = world_of(3, [oath("spare"), oath("help", 4, 2, ("broken", 0))])
        other = ("warn", 2, 1)
        self.assertEqual(draws(world, [], 2, [other, WARN, STRIKE], 2)[0], [STRIKE, other])
        self.assertEqual(draws(world, [], 2, [STRIKE, WARN], 2)[0], [STRIKE, STRIKE])
        self.assertEqual(draws(world, [], 2, [WARN, STRIKE], 2)[0], [STRIKE, WARN])

    def test_one_deed_more_than_once(self):
        world = world_of(3, [oath("spare"), oath("help", 4, 2, ("broken", 0), 5)])
        self.assertEqual(draws(world, [], 2, [STRIKE], 2), ([STRIKE, STRIKE], [("help", 2, 1)]))
        self.assertIsNone(draws(world, [], 2, [STRIKE], 1))

    def test_drawn_in_within_the_fall(self):
        # 2 is drawn in where 0 has helped 1, and no longer where 1 has helped 0.
        world = world_of(3, [
            oath("help", 1, 2, when("strike", 2, 1), 2), oath("help", 2, 1, when("help", 0, 1), 1),
            oath("help", 4, 2, ("and", when("help", 0, 1), ("not", when("help", 1, 0))), 9),
        ])
        struck = ("strike", 2, 1)
        told = [HELP, BACK]
        self.assertEqual(draws(world, [], 2, [WARN, struck], 1), ([struck], told))
        for k in range(3):
            self.assertEqual(2 in drawn(world, [struck] + told[:k]), k == 1)
        # At the end of the fall alone, and ahead of it alone.
        self.assertEqual(draws(world, [], 1, [WARN, struck], 1), ([struck], told))
        world = world_of(2, [oath(condition=("not", when("help", 0, 1)))])
        self.assertEqual(draws(world, [], 0, [("pass", 0, 1)], 0), ([], [HELP]))
        self.assertEqual(drawn(world, [HELP]), [])
        world = world_of(2, [oath(), oath("help", 2, 1, when("help", 0, 1), end=1)])
        self.assertIsNone(draws(world, [], 1, [WARN], 0))

    def test_drawn_in_ahead_of_the_row_alone_does_not_count(self):
        world = world_of(2, [oath(condition=("not", when("strike", 0, 1)))])
        self.assertIsNone(draws(world, [STRIKE], 0, [STRIKE, WARN], 1))
        self.assertEqual(draws(world, [STRIKE], 0, [WARN, ("peace", 0, 1)], 1), ([("peace", 0, 1)], [HELP]))

    def test_13_rows_and_more(self):
        world = world_of(2, [oath("help", 2, 1, ("broken", 1)), oath("spare")])
        three = [WARN, ("call", 0, 1), STRIKE]
        self.assertEqual(draws(world, [], 1, three, 2), ([STRIKE, WARN], [BACK]))
        self.assertIsNone(draws(world, [], 0, three, 2))
        six = three + [("call", 1, 0), ("pass", 0, 1), ("pass", 1, 0)]
        self.assertIsNone(draws(world, [], 1, six, 1))
        self.assertIsNone(draws(world, [], 1, six, 0))
        for count in (4, 5, 6):
            with self.assertRaises(TooMany):
                draws(world, [], 1, six[:count], 2)

    def test_how_many_deeds_and_how_many_are_put_is_not_refused_by_itself(self):
        world = world_of(4, [])
        pairs = list(itertools.permutations(range(4), 2))
        twelve = [("warn", a, b) for a, b in pairs]
        self.assertIsNone(draws(world, [], 0, twelve, 1))
        with self.assertRaises(TooMany):
            draws(world, [], 0, twelve + [STRIKE], 1)
        self.assertIsNone(draws(world, [], 0, [WARN], 12))
        with self.assertRaises(TooMany):
            draws(world, [], 0, [WARN], 13)
        with self.assertRaises(TooMany):
            draws(world, [], 0, twelve, 10 ** 59)

    def test_a_row_and_most_that_come_to_16_and_17(self):
        world = world_of(2, [oath("help", 2, 1, when("strike", 0, 1))])
        self.assertIsNone(draws(world, [WARN] * 16, 1, [STRIKE], 0))
        self.assertIsNone(draws(world, [WARN] * 15, 1, [WARN], 1))
        self.assertEqual(draws(world, [STRIKE] * 16, 1, [WARN], 0), ([], []))
        self.assertEqual(draws(world, [STRIKE] * 14, 1, [WARN, STRIKE], 2), ([], []))
        for k, most in ((16, 1), (15, 2), (16, 2), (17, 0)):
            with self.assertRaises(TooMany):
                draws(world, [STRIKE] * k, 1, [WARN], most)

    def test_refused_ahead_of_all_work(self):
        # The first row, that without deeds, would do.
        world = world_of(2, [oath(end=1)])
        self.assertEqual(draws(world, [], 0, [WARN, STRIKE, BACK], 2), ([], [HELP]))
        with self.assertRaises(TooMany):
            draws(world, [], 0, [WARN, STRIKE, BACK, HELP], 2)

    def test_a_fall_that_is_refused_on_the_way(self):
        last = oath("help", 2, 1, when("strike", 0, 1))
        world = world_of(3, [last, oath("help", 4, 1, when("call", 0, 1))])
        call = ("call", 0, 1)
        row = [WARN] * 15
        # Behind the strike comes a 17th deed: whatever stands behind it in the list is not gone through.
        for deeds in ([STRIKE, WARN], [WARN, STRIKE, call]):
            with self.assertRaises(TooMany):
                draws(world, row, 0, deeds, 1)
        # So it is where the land is drawn in at once by that very row.
        with self.assertRaises(TooMany):
            draws(world, row, 1, [STRIKE], 1)
        self.assertEqual(draws(world, row[1:], 1, [STRIKE], 1), ([STRIKE], [BACK]))
        # What comes ahead of it is told.
        ended = world_of(3, [last, oath("help", 4, 1, when("call", 0, 1)), oath("shun", 4, 1)])
        self.assertEqual(draws(ended, row, 2, [WARN, call, STRIKE], 1), ([call], []))
        with self.assertRaises(TooMany):
            draws(ended, row, 2, [WARN, STRIKE, call], 1)

    def test_a_fall_of_exactly_16_deeds(self):
        world = world_of(6, FULL)
        self.assertEqual(draws(world, [], 0, [WARN], 0), ([], FULL_FALL))
        self.assertEqual(draws(world, [], 4, [WARN], 1), ([], FULL_FALL))
        self.assertEqual(draws(world, FULL_FALL[:15], 0, [WARN], 1), ([], FULL_FALL[15:]))
        self.assertIsNone(draws(world, FULL_FALL[:15], 5, FULL_FALL[15:], 1))
        with self.assertRaises(TooMany):
            draws(world, [], 5, [WARN], 1)


def first_to_do(world, row):
    free = [(due, a, b, j) for j, a, b, since, due in waits(world, row) if ("shun", a, b) not in read(world, row)[0]]
    return ("help", *sorted(free)[0][1:3]) if free else None


# The fall told by one who reads the row anew behind each deed; None where it is refused.
def fall_slowly(world, row):
    told = []
    while True:
        story = Story(world, row + told)
        shunned = [duty[1:] for duty in story.sure[-1] if duty[0] == "shun"]
        free = sorted([(due, a, b, j) for j, a, b, since, due in story.waits() if (a, b) not in shunned])
        if not free:
            return told
        if len(row + told) == 16:
            return None
        told.append(("help", free[0][1], free[0][2]))


def draws_slowly(world, row, a, deeds, most):
    for length in range(most + 1):
        for added in itertools.product(deeds, repeat=length):
            behind = row + list(added)
            told = fall_slowly(world, behind)
            if told is None:
                return "refused"
            for k in range(len(told) + 1):
                sure = Story(world, behind + told[:k]).sure[-1]
                if [duty for duty in sure if duty[:2] == ("help", a)]:
                    return list(added), told
    return None


def needing_two(draw, one, deeds):
    """A help oath under the condition that two of the deeds, perhaps the same, were done."""
    done = [when(word if word != "peace" else "call", a, b) for word, a, b in draw.choices(deeds, k=2)]
    return one[:3] + (("and", *done),) + one[4:] if one[0] == "help" else one


class ManyWorlds(unittest.TestCase):
    def test_as_spelled_out(self):
        lengths = {}
        for world, row in histories(90, 200, (2, 3, 3, 4), most_deeds=5):
            told = fall(world, row)
            self.assertEqual(told, fall_slowly(world, row), (world, row))
            lengths[len(told)] = lengths.get(len(told), 0) + 1
        self.assertGreater(lengths[1], 20, lengths)
        self.assertGreater(lengths[2], 5, lengths)
        self.assertGreater(max(lengths), 3, lengths)

    def test_each_deed_is_the_first_that_waits_and_is_not_shunned(self):
        failed = 0
        for world, row in histories(91, 150, (3, 4), most_deeds=4):
            told = fall(world, row)
            for k in range(len(told) + 1):
                ahead = row + told[:k]
                self.assertEqual(first_to_do(world, ahead), told[k] if k < len(told) else None)
                self.assertEqual(fall(world, ahead), told[k:])
            # No help of a fall breaks a shun; others may fail while it goes on.
            late = [breach for breach in breaches(world, row + told) if breach[0] > len(row)]
            self.assertEqual({world[1][breach[1]][0] for breach in late} - {"help"}, set())
            failed += len(late)
        self.assertGreater(failed, 5)

    def test_follows_is_the_deed_and_the_fall_behind_it(self):
        draw = random.Random(92)
        for world, row in histories(92, 150, (2, 3, 4), most_deeds=4):
            a, b = draw.sample(range(world[0]), k=2)
            deed = (draw.choice(("strike", "help", "peace", "call")), a, b)
            self.assertEqual(follows(world, row, deed), [deed] + fall(world, row + [deed]))

    def test_near_the_end_of_a_row(self):
        told = set()
        for world, row in histories(93, 200, (2, 3, 4), most_deeds=4):
            row = [("refuse", 1, 0)] * (15 - len(row)) + row
            world = (world[0], tuple([one[:5] + (one[5] + 10, None, 0) for one in world[1]]))
            expected = fall_slowly(world, row)
            told.add(None if expected is None else len(expected))
            if expected is None:
                with self.assertRaises(TooMany):
                    fall(world, row)
            else:
                self.assertEqual(fall(world, row), expected)
        self.assertGreaterEqual(told, {None, 0, 1})

    def test_drawn_by_the_reading(self):
        for world, row in histories(94, 150):
            sure = read(world, row)[0]
            self.assertEqual(drawn(world, row), sorted({duty[1] for duty in sure if duty[0] == "help"}))

    def test_draws_as_spelled_out(self):
        draw = random.Random(95)
        seen = {}
        for world, row in histories(95, 240, (2, 3), 4, 3):
            pairs = list(itertools.permutations(range(world[0]), 2))
            every = [(word, a, b) for word in ("strike", "help", "peace", "pass") for a, b in pairs]
            deeds = draw.sample(every, k=draw.choice((1, 2, 3)))
            a, most = draw.randrange(world[0]), draw.choice((0, 1, 2, 2))
            if draw.random() < 0.5:
                world = (world[0], tuple([needing_two(draw, one, deeds) for one in world[1]]))
            expected = draws_slowly(world, row, a, deeds, most)
            self.assertEqual(draws(world, row, a, deeds, most), expected, (world, row, a, deeds, most))
            kind = None if expected is None else len(expected[0])
            seen[kind] = seen.get(kind, 0) + 1
        for kind in (None, 0, 1, 2):
            self.assertGreater(seen.get(kind, 0), 2, seen)

    def test_drawn_and_draws(self):
        for world, row in histories(96, 100, (2, 3), most_deeds=5):
            told = fall(world, row)
            inside = sorted({a for k in range(len(told) + 1) for a in drawn(world, row + told[:k])})
            for a in range(world[0]):
                self.assertEqual(draws(world, row, a, [STRIKE], 0), ([], told) if a in inside else None)
                answer = draws(world, row, a, [STRIKE, ("call", 1, 0)], 1)
                if answer is not None:
                    behind = row + answer[0]
                    self.assertEqual(answer[1], fall(world, behind))
                    ways = [drawn(world, behind + answer[1][:k]) for k in range(len(answer[1]) + 1)]
                    self.assertTrue([way for way in ways if a in way])

    def test_lands_exchanged(self):
        for world, row in histories(97, 60, (2, 3)):
            for lands in itertools.permutations(range(world[0])):
                other = world_of(world[0], [exchanged(one, lands) for one in world[1]])
                told = sorted([lands[a] for a in drawn(world, row)])
                self.assertEqual(drawn(other, [exchanged(deed, lands) for deed in row]), told)


class NothingIsShared(unittest.TestCase):
    def ask(self, world, row, deeds):
        told = [fall(world, row), follows(world, row, deeds[0]), drawn(world, row)]
        return told + [draws(world, row, a, deeds, 1) for a in range(world[0])]

    def test_what_is_handed_in_is_not_changed(self):
        for world, row in histories(98, 60, (2, 3), most_deeds=4):
            deeds = [STRIKE, WARN, HELP]
            kept = list(row)
            first = self.ask(world, row, deeds)
            again = self.ask(world, row, deeds)
            self.assertEqual(first, again)
            wiped([part for part in again if part is not None])
            self.assertEqual(self.ask(world, row, deeds), first)
            self.assertEqual((row, deeds), (kept, [STRIKE, WARN, HELP]))

    def test_no_two_lists_told_are_one(self):
        for world in (world_of(2, []), world_of(2, [oath()]), world_of(2, [oath("help", 3, 3, look("help"))])):
            told = self.ask(world, [], [WARN]) + self.ask(world, [], [WARN])
            lists = [part for part in told if isinstance(part, list)]
            lists += [part for pair in told if isinstance(pair, tuple) for part in pair]
            for one, other in itertools.combinations(lists, 2):
                self.assertIsNot(one, other)

    def test_the_deeds_told_are_not_the_list_handed_in(self):
        world = world_of(2, [oath("help", 2, 1, when("strike", 0, 1))])
        deeds = [STRIKE]
        told = draws(world, [], 1, deeds, 1)
        told[0].append(WARN)
        self.assertEqual(deeds, [STRIKE])
        deeds.append(WARN)
        self.assertEqual(draws(world, [], 1, deeds, 1), ([STRIKE], [BACK]))


if __name__ == "__main__":
    unittest.main()
