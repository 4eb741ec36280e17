import itertools
import unittest

from oathfall.faults import excused, faults
from oathfall.oaths import world_of
from oathfall.reading import sure_by
from oathfall.times import breaches, broken, read

from samples import HELP, YES, Story, exchanged, histories, oath, turned, wiped

WARN = ("warn", 1, 0)
STRIKE = ("strike", 0, 1)
AGAIN = ("peace", 1, 0)


def shunned(first=0, end=None, condition=YES):
    return oath("shun", 1, 2, condition, 1, first, end)


class Faults(unittest.TestCase):
    def test_without_deeds_oaths_or_with_one_land(self):
        for n in range(1, 7):
            self.assertEqual((faults(world_of(n, []), []), excused(world_of(n, []), [])), ([], []))
        self.assertEqual(faults(world_of(1, [oath("help", 1, 1)]), []), [])
        world = world_of(2, [oath("help", 3, 3), oath("shun", 3, 3), oath("spare", 3, 3)])
        self.assertEqual((faults(world, []), excused(world, [])), ([], []))

    def test_a_strike_and_a_help_that_was_shunned(self):
        for word, duty in (("strike", "spare"), ("help", "shun")):
            world = world_of(2, [oath(duty)])
            row = [(word, 0, 1), WARN, (word, 0, 1)]
            self.assertEqual(faults(world, row), [(1, 0, 0, 1, 1, 0), (3, 0, 0, 1, 3, 2)])
            self.assertEqual(excused(world, row), [])

    def test_a_strike_is_a_fault_though_the_shun_is_sure(self):
        world = world_of(2, [oath("spare"), shunned()])
        self.assertEqual(faults(world, [WARN, STRIKE]), [(2, 0, 0, 1, 2, 1)])
        self.assertEqual(excused(world, [WARN, STRIKE]), [])

    def test_a_help_that_was_free_from_its_since_on(self):
        for span in range(1, 10):
            world = world_of(2, [oath(span=span)])
            self.assertEqual(faults(world, [WARN] * 9), [(span, 0, 0, 1, 0, 0)])
            self.assertEqual(excused(world, [WARN] * 9), [])
        world = world_of(2, [oath(first=3, span=2)])
        self.assertEqual(faults(world, [WARN] * 9), [(5, 0, 0, 1, 3, 3)])

    def test_the_first_turn_behind_which_it_was_free(self):
        for end in range(1, 6):
            world = world_of(2, [oath(span=6), shunned(0, end)])
            self.assertEqual(faults(world, [WARN] * 6), [(6, 0, 0, 1, 0, end)])
            self.assertEqual(excused(world, [WARN] * 6), [])
        for first in range(1, 6):
            world = world_of(2, [oath(span=6), shunned(first)])
            self.assertEqual(faults(world, [WARN] * 6), [(6, 0, 0, 1, 0, 0)])

    def test_free_at_one_turn_between(self):
        struck = ("did", "strike", 0, 1)
        world = world_of(2, [oath(span=5), shunned(condition=struck, first=0), shunned(0, 1)])
        row = [STRIKE, WARN, AGAIN, STRIKE, WARN]
        self.assertEqual(faults(world, row), [(5, 0, 0, 1, 0, 3)])
        self.assertEqual(excused(world, row), [])

    def test_the_turn_of_the_breach_itself_does_not_count(self):
        world = world_of(2, [oath(span=3), shunned(0, 3)])
        self.assertEqual(faults(world, [WARN] * 3), [])
        self.assertEqual(excused(world, [WARN] * 3), [(3, 0, 0, 1, 0, [1, 1, 1])])
        world = world_of(2, [oath(span=3), shunned(3)])
        self.assertEqual(faults(world, [WARN] * 3), [(3, 0, 0, 1, 0, 0)])

    def test_the_turns_ahead_of_its_since_do_not_count(self):
        world = world_of(2, [oath(first=2, span=2), shunned(2)])
        self.assertEqual(faults(world, [WARN] * 4), [])
        self.assertEqual(excused(world, [WARN] * 4), [(4, 0, 0, 1, 2, [1, 1])])

    def test_another_shun_does_not_excuse(self):
        for shun in (oath("shun", 2, 1), oath("shun", 1, 4), oath("shun", 4, 2), shunned(condition=turned("shun")),
                     oath("spare", 1, 2), shunned(condition=("not", YES))):
            world = world_of(3, [oath(span=2), shun])
            self.assertEqual(faults(world, [WARN] * 2), [(2, 0, 0, 1, 0, 0)])
            self.assertEqual(excused(world, [WARN] * 2), [])

    def test_sorted(self):
        world = world_of(3, [oath("help", 1, 6, span=2), oath("help", 6, 1, span=1), oath("spare", 1, 2)])
        self.assertEqual(faults(world, [STRIKE, STRIKE]), [
            (1, 1, 1, 0, 0, 0), (1, 1, 2, 0, 0, 0), (1, 2, 0, 1, 1, 0),
            (2, 0, 0, 1, 0, 0), (2, 0, 0, 2, 0, 0), (2, 2, 0, 1, 2, 1),
        ])

    def test_by_what_was_broken(self):
        # The strike of turn 1 is a breach, for which the help is shunned from turn 2 on.
        world = world_of(2, [oath("spare", 2, 1), shunned(condition=("broken", 0)), oath(first=2, span=3), oath(span=2)])
        row = [("strike", 1, 0)] + [("warn", 1, 0)] * 5
        self.assertEqual(faults(world, row), [(1, 0, 1, 0, 1, 0), (2, 3, 0, 1, 0, 0)])
        self.assertEqual(excused(world, row), [(5, 2, 0, 1, 2, [1, 1, 1])])


class Excused(unittest.TestCase):
    def test_each_span(self):
        for span in range(1, 10):
            world = world_of(2, [shunned(), oath(span=span)])
            self.assertEqual(excused(world, [WARN] * 9), [(span, 1, 0, 1, 0, [0] * span)])
            self.assertEqual(faults(world, [WARN] * 9), [])

    def test_for_each_turn_the_least_oath(self):
        world = world_of(2, [shunned(3), shunned(1, 2), oath(span=5), shunned(0, 4), shunned()])
        self.assertEqual(excused(world, [WARN] * 5), [(5, 2, 0, 1, 0, [3, 1, 3, 0, 0])])

    def test_an_oath_by_which_the_shun_is_not_sure_is_left_out(self):
        world = world_of(2, [
            shunned(condition=("not", YES)), oath("shun", 2, 1), shunned(condition=turned("shun")), oath(span=2),
            shunned(), shunned(),
        ])
        self.assertEqual(excused(world, [WARN] * 2), [(2, 3, 0, 1, 0, [4, 4])])

    def test_of_several_breaches_each_has_its_own(self):
        world = world_of(3, [oath("help", 1, 6, span=2), oath("shun", 1, 6), oath("help", 2, 1, span=1)])
        row = [("warn", 1, 0)] * 2
        self.assertEqual(excused(world, row), [(2, 0, 0, 1, 0, [1, 1]), (2, 0, 0, 2, 0, [1, 1])])
        self.assertEqual(faults(world, row), [(1, 2, 1, 0, 0, 0)])

    def test_a_help_that_breaks_the_shun_keeps_the_other(self):
        world = world_of(2, [oath(span=2), shunned()])
        self.assertEqual(excused(world, [HELP, WARN]), [])
        self.assertEqual(faults(world, [HELP, WARN]), [(1, 1, 0, 1, 1, 0)])


class ManyWorlds(unittest.TestCase):
    def test_faults_and_excused_are_the_breaches(self):
        counts = [0, 0, 0]
        for world, row in histories(80, 400, most_deeds=12):
            one, other = faults(world, row), excused(world, row)
            self.assertEqual(one, sorted(one))
            self.assertEqual(other, sorted(other))
            self.assertEqual(sorted([told[:5] for told in one + other]), breaches(world, row))
            counts[0] += len(one)
            counts[1] += len(other)
            counts[2] += len([told for told in one if world[1][told[1]][0] == "help" and told[5] > told[4]])
        self.assertGreater(min(counts[:2]), 60, counts)
        self.assertGreater(counts[2], 4, counts)

    def test_by_the_readings_behind_each_turn(self):
        for world, row in histories(81, 250):
            sure = [read(world, row[:k])[0] for k in range(len(row) + 1)]
            for turn, j, a, b, since, u in faults(world, row):
                if world[1][j][0] == "help":
                    free = [k for k in range(since, turn) if ("shun", a, b) not in sure[k]]
                    self.assertEqual(u, free[0])
                else:
                    self.assertEqual(u, turn - 1)
            for turn, j, a, b, since, oaths in excused(world, row):
                self.assertEqual(world[1][j][0], "help")
                told = [sure_by(world, row[:k], broken(world, row[:k]), ("shun", a, b)) for k in range(since, turn)]
                self.assertEqual(oaths, [by[0] for by in told])

    def test_as_spelled_out(self):
        for world, row in histories(82, 250, most_deeds=10):
            story = Story(world, row)
            one, other = [], []
            for turn, j, a, b, since in story.breaches():
                shuns = [min([i for duty, i in story.by[k] if duty == ("shun", a, b)], default=None)
                         for k in range(since, turn)]
                if world[1][j][0] != "help":
                    one.append((turn, j, a, b, since, turn - 1))
                elif None in shuns:
                    one.append((turn, j, a, b, since, since + shuns.index(None)))
                else:
                    other.append((turn, j, a, b, since, shuns))
            self.assertEqual(faults(world, row), sorted(one))
            self.assertEqual(excused(world, row), sorted(other))

    # A failure is a fault just where the land could have helped at some turn without breaking a sure word.
    def test_a_fault_is_what_could_have_been_helped(self):
        seen = set()
        for world, row in histories(83, 200):
            free = [told[:5] for told in faults(world, row)]
            for turn, j, a, b, since in breaches(world, row):
                if world[1][j][0] == "help":
                    could = []
                    for k in range(since, turn):
                        helped = breaches(world, row[:k] + [("help", a, b)])
                        could.append(not [one for one in helped if one[0] == k + 1 and world[1][one[1]][0] == "shun"])
                    self.assertEqual((turn, j, a, b, since) in free, any(could))
                    seen.add(any(could))
        self.assertEqual(seen, {True, False})

    def test_lands_exchanged(self):
        for world, row in histories(84, 50, (2, 3)):
            for lands in itertools.permutations(range(world[0])):
                other = world_of(world[0], [exchanged(one, lands) for one in world[1]])
                other_row = [exchanged(deed, lands) for deed in row]
                for ask in (faults, excused):
                    told = [(turn, j, lands[a], lands[b], *rest) for turn, j, a, b, *rest in ask(world, row)]
                    self.assertEqual(ask(other, other_row), sorted(told))

    def test_behind_each_beginning_of_a_row(self):
        for world, row in histories(85, 120):
            for ask in (faults, excused):
                whole = ask(world, row)
                for k in range(len(row) + 1):
                    self.assertEqual(ask(world, row[:k]), [told for told in whole if told[0] <= k])


class NothingIsShared(unittest.TestCase):
    def test_what_is_handed_in_is_not_changed_and_what_is_told_is_the_askers_own(self):
        for world, row in histories(86, 100):
            kept = list(row)
            for ask in (faults, excused):
                first = ask(world, row)
                wiped(ask(world, row))
                self.assertEqual(ask(world, row), first)
            self.assertEqual(row, kept)

    def test_no_two_lists_of_oaths_are_one(self):
        world = world_of(3, [oath("help", 1, 6, span=2), oath("help", 1, 2, span=2), oath("shun", 1, 6)])
        told = excused(world, [WARN, WARN])
        self.assertEqual(len(told), 3)
        lists = [one[5] for one in told + excused(world, [WARN, WARN])]
        for one, other in itertools.combinations(lists, 2):
            self.assertIsNot(one, other)
        told[0][5].append(9)
        self.assertEqual(told[1][5], [2, 2])


if __name__ == "__main__":
    unittest.main()
