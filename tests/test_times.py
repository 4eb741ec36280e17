import itertools
import unittest

from oathfall.oaths import in_force, owed_by, world_of
from oathfall.reading import reading, sure_by
from oathfall.times import breaches, broken, read, waits

from samples import BACK, HELP, SHUN, SPARE, YES, Story, exchanged, histories, look, oath, turned, wiped

WARN = ("warn", 0, 1)
STRUCK = ("strike", 2, 1)
PEACE = ("peace", 1, 2)
# Land 0 helps land 1 where land 2 has struck it.
WHEN_STRUCK = ("did", "strike", 2, "you")


def struck(span=2, **others):
    return world_of(3, [oath(condition=WHEN_STRUCK, span=span, **others)])


class Waits(unittest.TestCase):
    def test_without_oaths_or_with_one_land(self):
        for n in range(1, 7):
            self.assertEqual(waits(world_of(n, []), []), [])
        self.assertEqual(waits(world_of(2, []), [WARN, HELP]), [])
        self.assertEqual(waits(world_of(1, [oath("help", 1, 1)]), []), [])

    def test_without_deeds_it_waits_from_turn_0_on(self):
        for span in range(1, 10):
            self.assertEqual(waits(world_of(2, [oath(span=span)]), []), [(0, 0, 1, 0, span)])

    def test_for_each_maker_and_each_other_ward(self):
        told = [(0, 0, 1, 0, 3), (0, 0, 2, 0, 3), (0, 1, 0, 0, 3), (0, 1, 2, 0, 3)]
        self.assertEqual(waits(world_of(3, [oath("help", 3, 7, span=3)]), []), told)
        for makers, wards in ((0, 3), (3, 0), (2, 2)):
            self.assertEqual(waits(world_of(2, [oath("help", makers, wards)]), []), [])

    def test_helps_alone(self):
        world = world_of(2, [oath("shun", 3, 3), oath("spare", 3, 3), oath("help", 2, 1)])
        self.assertEqual(waits(world, []), [(2, 1, 0, 0, 1)])

    def test_sure_ones_alone(self):
        for condition in (turned("help"), look("help"), ("not", YES), ("broken", 0)):
            self.assertEqual(waits(world_of(2, [oath(condition=condition)]), []), [])

    def test_since_is_the_turn_behind_which_it_is_sure_first(self):
        world = struck(4)
        for k in range(4):
            row = [WARN] * k + [STRUCK]
            self.assertEqual(waits(world, row[:-1]), [])
            self.assertEqual(waits(world, row), [(0, 0, 1, k + 1, k + 5)])
            self.assertEqual(waits(world, row + [WARN, STRUCK]), [(0, 0, 1, k + 1, k + 5)])

    def test_each_span_up_to_the_turn_ahead_of_the_due_one(self):
        for span in range(1, 10):
            world = world_of(2, [oath(span=span)])
            for k in range(11):
                self.assertEqual(waits(world, [WARN] * k), [(0, 0, 1, 0, span)] if k < span else [])

    def test_a_help_keeps_it_up_to_its_due_turn(self):
        for span, k in itertools.product((1, 2, 9), range(9)):
            world = world_of(2, [oath(span=span)])
            row = [WARN] * k + [HELP]
            self.assertEqual(waits(world, row), [])
            self.assertEqual(breaches(world, row + [WARN] * 10), [] if k < span else [(span, 0, 0, 1, 0)])

    def test_another_deed_does_not_keep_it(self):
        world = struck(2)
        for deed in (("help", 1, 0), ("help", 0, 2), ("help", 2, 1), ("pass", 0, 1), ("call", 0, 1), ("refuse", 0, 1)):
            self.assertEqual(waits(world, [STRUCK, deed]), [(0, 0, 1, 1, 3)])

    def test_the_help_of_its_first_turn_does_not_keep_it(self):
        world = world_of(2, [oath(condition=("did", "help", "me", "you"), span=2)])
        self.assertEqual(waits(world, [HELP]), [(0, 0, 1, 1, 3)])
        self.assertEqual(waits(world, [HELP, HELP]), [])
        world = world_of(2, [oath(first=1)])
        self.assertEqual(waits(world, [HELP]), [(0, 0, 1, 1, 2)])

    def test_kept_it_does_not_wait_anew_while_it_is_sure(self):
        world = world_of(2, [oath()])
        for k in range(1, 6):
            self.assertEqual(waits(world, [HELP] + [WARN] * k), [])
        world = struck()
        self.assertEqual(waits(world, [STRUCK, HELP, STRUCK]), [])
        self.assertEqual(breaches(world, [STRUCK, HELP, STRUCK] + [WARN] * 6), [])

    def test_failed_it_does_not_wait_anew_while_it_is_sure(self):
        world = struck(1)
        row = [STRUCK, WARN, WARN, STRUCK, WARN]
        for k in range(2, 6):
            self.assertEqual(waits(world, row[:k]), [])
            self.assertEqual(breaches(world, row[:k]), [(2, 0, 0, 1, 1)])

    def test_it_waits_anew_behind_a_turn_between(self):
        for world, row in ((struck(), [STRUCK, HELP]), (struck(), [STRUCK, WARN, WARN]), (struck(), [STRUCK, WARN])):
            k = len(row)
            self.assertEqual(waits(world, row + [PEACE]), [])
            self.assertEqual(waits(world, row + [PEACE, STRUCK]), [(0, 0, 1, k + 2, k + 4)])

    def test_it_waits_anew_where_its_help_made_it_not_sure(self):
        world = world_of(2, [oath(condition=("not", ("did", "help", "me", "you")), span=2)])
        row = [HELP, ("peace", 1, 0)]
        self.assertEqual(waits(world, []), [(0, 0, 1, 0, 2)])
        self.assertEqual(waits(world, row[:1]), [])
        self.assertEqual(waits(world, row), [(0, 0, 1, 2, 4)])
        self.assertEqual(breaches(world, row + [WARN] * 2), [(4, 0, 0, 1, 2)])

    def test_let_go_where_it_is_no_longer_sure(self):
        for span in (2, 3, 9):
            self.assertEqual(waits(struck(span), [STRUCK, PEACE]), [])
            self.assertEqual(breaches(struck(span), [STRUCK, PEACE] + [WARN] * 9), [])

    def test_let_go_at_the_turn_of_its_due(self):
        row = [STRUCK, WARN, PEACE]
        self.assertEqual(waits(struck(2), row), [])
        self.assertEqual(breaches(struck(2), row), [])
        self.assertEqual(breaches(struck(2), [STRUCK, WARN, WARN, PEACE]), [(3, 0, 0, 1, 1)])

    def test_let_go_at_the_turn_of_its_help(self):
        condition = ("and", WHEN_STRUCK, ("not", ("did", "help", "me", "you")))
        world = world_of(3, [oath(condition=condition, span=1)])
        self.assertEqual(waits(world, [STRUCK, HELP]), [])
        self.assertEqual(breaches(world, [STRUCK, HELP, WARN]), [])

    def test_an_oath_that_comes_into_force_on_the_way(self):
        world = world_of(2, [oath(first=2, span=3)])
        told = [[], [], [(0, 0, 1, 2, 5)], [(0, 0, 1, 2, 5)], [(0, 0, 1, 2, 5)], []]
        for k, expected in enumerate(told):
            self.assertEqual(waits(world, [WARN] * k), expected)
        self.assertEqual(waits(world_of(2, [oath(first=16, span=9)]), [WARN] * 16), [(0, 0, 1, 16, 25)])

    def test_an_oath_that_ends_while_something_waits(self):
        for end in range(1, 6):
            world = world_of(2, [oath(span=4, end=end)])
            for k in range(7):
                waiting = k < 4 and k < end
                self.assertEqual(waits(world, [WARN] * k), [(0, 0, 1, 0, 4)] if waiting else [])
            # At the turn of its end it is let go, though it is due.
            self.assertEqual(breaches(world, [WARN] * 6), [(4, 0, 0, 1, 0)] if end == 5 else [])
        self.assertEqual(waits(world_of(2, [oath(end=0)]), []), [])

    def test_of_a_duty_by_two_oaths_each_waits_for_itself(self):
        world = world_of(3, [oath(span=4), oath(condition=WHEN_STRUCK, span=2), oath(condition=look("help"), span=1)])
        self.assertEqual(waits(world, []), [(0, 0, 1, 0, 4), (2, 0, 1, 0, 1)])
        self.assertEqual(waits(world, [STRUCK]), [(0, 0, 1, 0, 4), (1, 0, 1, 1, 3)])
        self.assertEqual(waits(world, [STRUCK, HELP]), [])
        self.assertEqual(waits(world, [STRUCK, PEACE]), [(0, 0, 1, 0, 4)])
        self.assertEqual(waits(world, [HELP, STRUCK]), [(1, 0, 1, 2, 4)])

    def test_another_oath_by_which_it_is_sure_does_not_hold_it(self):
        world = world_of(3, [oath(condition=WHEN_STRUCK, span=2), oath(first=2, span=9)])
        row = [STRUCK, PEACE, WARN, WARN]
        self.assertEqual(waits(world, row), [(1, 0, 1, 2, 11)])
        self.assertEqual(breaches(world, row), [])

    def test_told_sorted_by_oath_and_lands(self):
        world = world_of(3, [oath("help", 7, 7, ("did", "strike", "you", "me"), 9), oath("help", 4, 3, span=9)])
        row = [("strike", 2, 1), ("strike", 0, 1), ("strike", 1, 0)]
        self.assertEqual(waits(world, row), [
            (0, 0, 1, 3, 12), (0, 1, 0, 2, 11), (0, 1, 2, 1, 10), (1, 2, 0, 0, 9), (1, 2, 1, 0, 9),
        ])

    def test_a_longer_row(self):
        self.assertEqual(waits(world_of(2, [oath(first=16, span=9)]), [WARN] * 20), [(0, 0, 1, 16, 25)])
        self.assertEqual(breaches(world_of(2, [oath(first=16, span=9)]), [WARN] * 26), [(25, 0, 0, 1, 16)])


class AtOnce(unittest.TestCase):
    def test_a_strike_fails_a_spare_and_a_help_a_shun(self):
        for word, duty in (("strike", "spare"), ("help", "shun")):
            world = world_of(2, [oath(duty)])
            self.assertEqual(breaches(world, [(word, 0, 1)]), [(1, 0, 0, 1, 1)])
            self.assertEqual(breaches(world, [WARN, WARN, (word, 0, 1)]), [(3, 0, 0, 1, 3)])
            self.assertEqual(breaches(world, [(word, 0, 1)] * 3), [(k, 0, 0, 1, k) for k in (1, 2, 3)])

    def test_nothing_else_fails_them(self):
        words = ("strike", "pass", "warn", "call", "help", "refuse", "peace")
        for word, duty in itertools.product(words, ("spare", "shun")):
            world = world_of(2, [oath(duty)])
            fails = (word, duty) in (("strike", "spare"), ("help", "shun"))
            self.assertEqual(breaches(world, [(word, 0, 1)]), [(1, 0, 0, 1, 1)] if fails else [])
            self.assertEqual(breaches(world, [(word, 1, 0)]), [])

    def test_other_lands_deeds_do_not(self):
        for word, duty in (("strike", "spare"), ("help", "shun")):
            world = world_of(3, [oath(duty)])
            for a, b in itertools.permutations(range(3), 2):
                self.assertEqual(breaches(world, [(word, a, b)]) != [], (a, b) == (0, 1))

    def test_each_oath_by_which_it_is_sure(self):
        for word, duty in (("strike", "spare"), ("help", "shun")):
            world = world_of(2, [
                oath(duty), oath(duty, condition=("not", YES)), oath(duty, 3, 3), oath(duty, condition=look(duty)),
                oath(duty, condition=turned(duty)), oath(duty, 2, 1),
            ])
            self.assertEqual(breaches(world, [(word, 0, 1)]), [(1, j, 0, 1, 1) for j in (0, 2, 3)])

    def test_open_ones_do_not_fail(self):
        for word, duty in (("strike", "spare"), ("help", "shun")):
            self.assertEqual(breaches(world_of(2, [oath(duty, condition=turned(duty))]), [(word, 0, 1)] * 3), [])

    def test_it_counts_what_is_sure_ahead_of_the_deed(self):
        for word, duty in (("strike", "spare"), ("help", "shun")):
            deed = (word, 0, 1)
            done = ("did", word, "me", "you")
            self.assertEqual(breaches(world_of(2, [oath(duty, condition=done)]), [deed, deed]), [(2, 0, 0, 1, 2)])
            self.assertEqual(
                breaches(world_of(2, [oath(duty, condition=("not", done))]), [deed, deed]), [(1, 0, 0, 1, 1)])
            self.assertEqual(
                breaches(world_of(2, [oath(duty, first=1, end=3)]), [deed] * 5), [(2, 0, 0, 1, 2), (3, 0, 0, 1, 3)])

    def test_a_help_may_keep_one_oath_and_fail_another(self):
        world = world_of(2, [oath("shun"), oath(span=1)])
        self.assertEqual(breaches(world, [HELP]), [(1, 0, 0, 1, 1)])
        self.assertEqual(waits(world, [HELP]), [])
        self.assertEqual(breaches(world, [WARN]), [(1, 1, 0, 1, 0)])

    def test_a_deed_of_two_lands_that_swore_nothing(self):
        for deed in (("strike", 0, 1), HELP):
            self.assertEqual(breaches(world_of(2, []), [deed]), [])


class Breaches(unittest.TestCase):
    def test_without_deeds_oaths_or_with_one_land(self):
        for n in range(1, 7):
            self.assertEqual(breaches(world_of(n, []), []), [])
            self.assertEqual(broken(world_of(n, []), []), [])
        for duty in ("help", "spare", "shun"):
            self.assertEqual(breaches(world_of(2, [oath(duty, 3, 3)]), []), [])
            self.assertEqual(breaches(world_of(1, [oath(duty, 1, 1)]), []), [])
        self.assertEqual(breaches(world_of(2, []), [("strike", 0, 1), WARN, HELP]), [])

    def test_a_help_fails_at_its_due_turn(self):
        for span in range(1, 10):
            world = world_of(2, [oath(span=span)])
            self.assertEqual(breaches(world, [WARN] * (span - 1)), [])
            self.assertEqual(breaches(world, [WARN] * span), [(span, 0, 0, 1, 0)])
            self.assertEqual(breaches(world, [WARN] * (span + 3)), [(span, 0, 0, 1, 0)])

    def test_the_same_oath_more_than_once(self):
        row = [STRUCK, WARN, PEACE, WARN, STRUCK, WARN, WARN]
        self.assertEqual(breaches(struck(1), row), [(2, 0, 0, 1, 1), (6, 0, 0, 1, 5)])

    def test_told_sorted(self):
        world = world_of(3, [oath("help", 1, 6, span=2), oath("help", 6, 1, span=1), oath("spare", 1, 2)])
        row = [("strike", 0, 1), ("strike", 0, 1)]
        self.assertEqual(breaches(world, row), [
            (1, 1, 1, 0, 0), (1, 1, 2, 0, 0), (1, 2, 0, 1, 1), (2, 0, 0, 1, 0), (2, 0, 0, 2, 0), (2, 2, 0, 1, 2),
        ])

    def test_a_breach_at_the_last_turn_and_one_ahead_of_it(self):
        world = world_of(2, [oath(span=1), oath(span=2), oath("shun", condition=("broken", 0))])
        told = [([], []), ([(1, 0, 0, 1, 0)], []), ([(1, 0, 0, 1, 0), (2, 1, 0, 1, 0)], [0])]
        for k, (failed, lost) in enumerate(told):
            self.assertEqual(breaches(world, [WARN] * k), failed)
            self.assertEqual(broken(world, [WARN] * k), lost)
            self.assertEqual(read(world, [WARN] * k), ([HELP, SHUN] if k == 2 else [HELP], []))
        self.assertEqual(broken(world, [WARN] * 3), [0, 1])

    def test_an_oath_broken_twice_is_told_once(self):
        world = world_of(2, [oath("spare"), oath("shun", 3, 3)])
        self.assertEqual(broken(world, [HELP, ("strike", 0, 1), ("strike", 0, 1), BACK, WARN]), [0, 1])

    def test_an_oath_that_looks_whether_it_was_broken_itself(self):
        world = world_of(2, [oath(condition=("broken", 0)), oath("spare", condition=("broken", 1))])
        row = [("strike", 0, 1)] * 4
        self.assertEqual((breaches(world, row), broken(world, row), waits(world, row)), ([], [], []))
        world = world_of(2, [oath(condition=("not", ("broken", 0)))])
        self.assertEqual(read(world, [WARN]), ([HELP], []))
        self.assertEqual(read(world, [WARN] * 2), ([], []))
        self.assertEqual(breaches(world, [WARN] * 9), [(1, 0, 0, 1, 0)])
        self.assertEqual(waits(world, [WARN] * 9), [])

    def test_a_breach_counts_from_the_turn_behind_it_on(self):
        # Behind turn 1 the oath is not yet broken for its own condition: so the second strike fails it as well.
        world = world_of(2, [oath("spare", condition=("not", ("broken", 0)))])
        row = [("strike", 0, 1)] * 5
        self.assertEqual(breaches(world, row), [(1, 0, 0, 1, 1), (2, 0, 0, 1, 2)])
        self.assertEqual([read(world, row[:k])[0] for k in range(4)], [[SPARE], [SPARE], [], []])
        world = world_of(2, [oath("spare"), oath(condition=("broken", 0), span=2)])
        self.assertEqual(waits(world, [("strike", 0, 1)]), [])
        self.assertEqual(waits(world, [("strike", 0, 1), WARN]), [(1, 0, 1, 2, 4)])

    def test_a_chain_of_breaches(self):
        world = world_of(2, [oath(), oath(condition=("broken", 0)), oath(condition=("broken", 1), span=3)])
        told = [(1, 0, 0, 1, 0), (3, 1, 0, 1, 2), (7, 2, 0, 1, 4)]
        for k in range(10):
            self.assertEqual(breaches(world, [WARN] * k), [breach for breach in told if breach[0] <= k])

    def test_an_oath_stays_broken_when_it_has_ended_or_peace_was_made(self):
        world = world_of(2, [oath("spare", end=2), oath("help", 2, 1, ("broken", 0), 9)])
        row = [("strike", 0, 1), ("peace", 0, 1), WARN]
        self.assertEqual(broken(world, row), [0])
        self.assertEqual(read(world, row), ([BACK], []))

    def test_a_breach_may_let_go_of_what_waits(self):
        world = world_of(2, [oath("spare", 2, 1), oath(condition=("not", ("broken", 0)), span=3)])
        row = [WARN, ("strike", 1, 0), WARN]
        self.assertEqual(waits(world, row[:2]), [(1, 0, 1, 0, 3)])
        self.assertEqual(waits(world, row), [])
        self.assertEqual(breaches(world, row), [(2, 0, 1, 0, 2)])


class Reads(unittest.TestCase):
    def test_without_oaths_or_with_one_land(self):
        for n in range(1, 7):
            self.assertEqual(read(world_of(n, []), []), ([], []))
        self.assertEqual(read(world_of(1, [oath("help", 1, 1)]), []), ([], []))

    def test_sure_and_open_ones(self):
        world = world_of(2, [oath(), oath("shun", 3, 3, turned("shun", "you", "me"))])
        self.assertEqual(read(world, []), ([HELP], [SHUN, ("shun", 1, 0)]))

    def test_by_the_deeds_and_the_breaches_ahead_of_the_last_turn(self):
        world = world_of(2, [oath("spare"), oath("help", 2, 1, ("broken", 0)), oath(condition=("did", "warn", 0, 1))])
        self.assertEqual(read(world, []), ([SPARE], []))
        self.assertEqual(read(world, [("strike", 0, 1)]), ([SPARE], []))
        self.assertEqual(read(world, [("strike", 0, 1), WARN]), ([HELP, BACK, SPARE], []))
        self.assertEqual(read(world, [WARN, ("strike", 0, 1)]), ([HELP, SPARE], []))


class ManyWorlds(unittest.TestCase):
    def test_behind_each_turn_as_spelled_out(self):
        ends = {"kept": 0, "failed": 0, "let go": 0, "waits": 0}
        anew = 0
        for world, row in histories(60, 500, most_deeds=14):
            story = Story(world, row)
            case = (world, row)
            self.assertEqual(breaches(world, row), story.breaches(), case)
            self.assertEqual(waits(world, row), story.waits(), case)
            self.assertEqual(broken(world, row), story.broken[-1], case)
            self.assertEqual(read(world, row)[0], story.sure[-1], case)
            told = [wait[:3] for wait in story.waiting()]
            anew += len(told) > len(set(told))
            for wait in story.waiting():
                ends[wait[5]] += 1
        self.assertGreater(min(ends.values()), 100, ends)
        self.assertGreater(anew, 10)

    def test_larger_worlds(self):
        for world, row in histories(61, 12, (4, 5, 6), 8, 12, 5):
            story = Story(world, row)
            self.assertEqual(breaches(world, row), story.breaches())
            self.assertEqual(waits(world, row), story.waits())
            self.assertEqual(broken(world, row), story.broken[-1])

    def test_behind_each_beginning_of_a_row(self):
        failed = 0
        for world, row in histories(62, 250, most_deeds=12):
            whole = breaches(world, row)
            failed += len(whole)
            for k in range(len(row) + 1):
                self.assertEqual(breaches(world, row[:k]), [breach for breach in whole if breach[0] <= k])
                lost = sorted({breach[1] for breach in whole if breach[0] < k})
                self.assertEqual(broken(world, row[:k]), lost)
                self.assertEqual(read(world, row[:k]), reading(world, row[:k], lost))
        self.assertGreater(failed, 200)

    def test_each_wait_by_the_turns_behind_which_it_is_sure(self):
        for world, row in histories(63, 250):
            lost = [broken(world, row[:k]) for k in range(len(row) + 1)]
            for j, a, b, since, due in waits(world, row):
                one = world[1][j]
                self.assertEqual((one[0], due), ("help", since + one[4]))
                self.assertIn(j, owed_by(world, ("help", a, b)))
                self.assertLess(len(row), due)
                for k in range(since, len(row) + 1):
                    self.assertTrue(in_force(one, k))
                    self.assertIn(j, sure_by(world, row[:k], lost[k], ("help", a, b)))
                self.assertNotIn(("help", a, b), row[since:])
                if since > 0:
                    self.assertNotIn(j, sure_by(world, row[:since - 1], lost[since - 1], ("help", a, b)))

    def test_each_breach_by_the_readings_ahead_of_it(self):
        for world, row in histories(64, 250):
            lost = [broken(world, row[:k]) for k in range(len(row) + 1)]
            for turn, j, a, b, since in breaches(world, row):
                duty = (world[1][j][0], a, b)
                if duty[0] == "help":
                    self.assertEqual(turn, since + world[1][j][4])
                    self.assertIn((j, a, b, since, turn), waits(world, row[:turn - 1]))
                    self.assertIn(j, sure_by(world, row[:turn], lost[turn], duty))
                    self.assertNotEqual(row[turn - 1], duty)
                else:
                    self.assertEqual(since, turn)
                    self.assertEqual(row[turn - 1], ({"spare": "strike", "shun": "help"}[duty[0]], a, b))
                    self.assertIn(j, sure_by(world, row[:turn - 1], lost[turn - 1], duty))

    def test_lands_exchanged_exchange_all(self):
        for world, row in histories(65, 60, (2, 3)):
            for lands in itertools.permutations(range(world[0])):
                other = world_of(world[0], [exchanged(one, lands) for one in world[1]])
                other_row = [exchanged(deed, lands) for deed in row]
                told = sorted([(j, lands[a], lands[b], since, due) for j, a, b, since, due in waits(world, row)])
                self.assertEqual(waits(other, other_row), told)
                told = sorted([(turn, j, lands[a], lands[b], since) for turn, j, a, b, since in breaches(world, row)])
                self.assertEqual(breaches(other, other_row), told)
                self.assertEqual(broken(other, other_row), broken(world, row))
                told = tuple([sorted([exchanged(duty, lands) for duty in part]) for part in read(world, row)])
                self.assertEqual(read(other, other_row), told)


class NothingIsShared(unittest.TestCase):
    def ask(self, world, row):
        return [breaches(world, row), waits(world, row), broken(world, row), read(world, row)]

    def test_what_is_handed_in_is_not_changed(self):
        for world, row in histories(66, 60):
            kept = list(row)
            self.ask(world, row)
            self.assertEqual(row, kept)

    def test_what_is_told_is_the_askers_own(self):
        for world, row in histories(67, 60):
            first = self.ask(world, row)
            again = self.ask(world, row)
            wiped(again)
            self.assertEqual(self.ask(world, row), first)
            wiped(self.ask(world, []))
            self.assertEqual(self.ask(world, row), first)

    def test_no_two_lists_told_are_one(self):
        for world in (world_of(2, []), world_of(2, [oath()]), world_of(2, [oath("spare")])):
            told = self.ask(world, []) + self.ask(world, []) + self.ask(world, [WARN])
            lists = [part for part in told if isinstance(part, list)]
            lists += [part for pair in told if isinstance(pair, tuple) for part in pair]
            for one, other in itertools.combinations(lists, 2):
                self.assertIsNot(one, other)

    def test_a_row_changed_later_is_read_anew(self):
        world = world_of(2, [oath(span=2)])
        row = []
        self.assertEqual(waits(world, row), [(0, 0, 1, 0, 2)])
        row.append(HELP)
        self.assertEqual(waits(world, row), [])
        row[0] = WARN
        row.append(WARN)
        self.assertEqual(breaches(world, row), [(2, 0, 0, 1, 0)])
        row.clear()
        self.assertEqual(breaches(world, row), [])


if __name__ == "__main__":
    unittest.main()
