import itertools
import unittest

from oathfall.keeping import keep
from oathfall.oaths import world_of
from oathfall.reading import sure_by
from oathfall.times import breaches, broken, read, waits

from samples import HELP, YES, Story, exchanged, histories, oath, turned, wiped

WARN = ("warn", 1, 2)


def of(*spans):
    """A world in which land 0 is to help 1, 2 and so on, each within its own span."""
    return world_of(len(spans) + 1, [oath("help", 1, 2 << place, YES, span) for place, span in enumerate(spans)])


def way(*wards):
    return ("way", [("help", 0, b) for b in wards])


# What the document says of clashes, spelled out over what waits, as tuples (due, oath, b, since), and over what is
# shunned, as tuples (oath, b).

def parts_of(waiting, shuns):
    return [("help", j, b, due) for due, j, b, since in waiting] + [("shun", j, b) for j, b in shuns]


def is_clash(parts, now):
    """Whether these tuples are a clash, however many there are of it."""
    helps = [part for part in parts if part[0] == "help"]
    shuns = [part for part in parts if part[0] == "shun"]
    if shuns:
        return len(helps) == 1 and len(shuns) == 1 and helps[0][2] == shuns[0][2]
    last = now + len(helps) - 1
    return len({part[2] for part in helps}) == len(helps) > 0 and all(part[3] <= last for part in helps)


def least_clashes(waiting, shuns, now):
    everything = sorted(parts_of(waiting, shuns))
    for count in range(len(everything) + 1):
        found = [list(parts) for parts in itertools.combinations(everything, count) if is_clash(parts, now)]
        if found:
            return found
    return []


def can_be_kept(parts, now):
    """Whether there is an order in which each help comes in time, none of them shunned, looking at these alone."""
    shunned = {part[2] for part in parts if part[0] == "shun"}
    helps = [part for part in parts if part[0] == "help"]
    if any(part[2] in shunned for part in helps):
        return False
    wards = sorted({part[2] for part in helps})
    for order in itertools.permutations(wards):
        if all(order.index(part[2]) + now + 1 <= part[3] for part in helps):
            return True
    return False


class Ways(unittest.TestCase):
    def test_where_nothing_waits(self):
        for n in range(1, 7):
            for a in range(n):
                self.assertEqual(keep(world_of(n, []), [], a), ("way", []))
        self.assertEqual(keep(world_of(1, [oath("help", 1, 1)]), [], 0), ("way", []))
        self.assertEqual(keep(of(1), [], 1), ("way", []))
        self.assertEqual(keep(of(1), [HELP], 0), ("way", []))
        self.assertEqual(keep(of(1), [WARN], 0), ("way", []))
        self.assertEqual(keep(world_of(2, [oath("shun", 3, 3)]), [], 0), ("way", []))

    def test_one_ward(self):
        for span in (1, 2, 9):
            self.assertEqual(keep(of(span), [], 0), way(1))

    def test_by_their_earliest_dues(self):
        self.assertEqual(keep(of(3, 1, 2), [], 0), way(2, 3, 1))
        self.assertEqual(keep(of(9, 8, 7, 6, 5), [], 0), way(5, 4, 3, 2, 1))

    def test_of_two_dues_alike_the_lower_ward_first(self):
        self.assertEqual(keep(of(2, 2), [], 0), way(1, 2))
        self.assertEqual(keep(of(3, 3, 3), [], 0), way(1, 2, 3))
        self.assertEqual(keep(of(9, 2, 9, 2), [], 0), way(2, 4, 1, 3))
        # Whatever the oaths' numbers are.
        world = world_of(3, [oath("help", 1, 4, span=2), oath("help", 1, 2, span=2)])
        self.assertEqual(keep(world, [], 0), way(1, 2))

    def test_a_ward_by_several_oaths_is_helped_once_by_the_earliest_due(self):
        world = world_of(3, [oath(span=9), oath("help", 1, 4, span=2), oath(span=1), oath(span=3)])
        self.assertEqual(keep(world, [], 0), way(1, 2))
        world = world_of(3, [oath(span=9), oath("help", 1, 4, span=2), oath(span=3)])
        self.assertEqual(keep(world, [], 0), way(2, 1))

    def test_the_last_help_just_in_time(self):
        self.assertEqual(keep(of(1, 2, 3, 4, 5), [], 0), way(1, 2, 3, 4, 5))
        self.assertEqual(keep(of(5, 5, 5, 5, 5), [], 0), way(1, 2, 3, 4, 5))
        self.assertEqual(keep(of(3, 3, 3), [], 0), way(1, 2, 3))
        self.assertEqual(keep(of(3, 3), [WARN], 0), way(1, 2))

    def test_what_other_lands_owe_does_not_matter(self):
        world = world_of(3, [oath("help", 1, 2), oath("help", 2, 5), oath("help", 4, 3), oath("shun", 6, 7)])
        self.assertEqual(keep(world, [], 0), way(1))

    def test_a_shun_of_a_ward_that_does_not_wait(self):
        world = world_of(3, [oath("help", 1, 2, span=2), oath("shun", 1, 4)])
        self.assertEqual(keep(world, [], 0), way(1))

    def test_an_open_shun_and_one_the_other_way_round_do_not_matter(self):
        world = world_of(2, [oath(), oath("shun", 1, 2, turned("shun")), oath("shun", 2, 1)])
        self.assertEqual(keep(world, [], 0), way(1))

    def test_a_shun_that_is_not_yet_or_no_longer_sure(self):
        for shun in (oath("shun", first=1), oath("shun", end=0), oath("shun", condition=("did", "strike", 0, 1))):
            self.assertEqual(keep(world_of(2, [oath(), shun]), [], 0), way(1))

    def test_what_is_kept_or_let_go_is_left_out(self):
        world = world_of(3, [oath("help", 1, 6, span=4)])
        self.assertEqual(keep(world, [HELP], 0), way(2))
        world = world_of(3, [oath("help", 1, 6, span=4, end=2), oath("help", 1, 4, span=9)])
        self.assertEqual(keep(world, [WARN, WARN], 0), way(2))

    def test_now_is_the_number_of_deeds(self):
        for k in range(7):
            world = world_of(3, [oath("help", 1, 6, span=2, first=k)])
            self.assertEqual(keep(world, [WARN] * k, 0), way(1, 2))


class Clashes(unittest.TestCase):
    def test_a_shun_of_a_ward_that_waits(self):
        for span in (1, 9):
            world = world_of(2, [oath("shun"), oath(span=span)])
            self.assertEqual(keep(world, [], 0), ("clash", [("help", 1, 1, span), ("shun", 0, 1)]))

    def test_two_helps_due_at_the_next_turn(self):
        self.assertEqual(keep(of(1, 1), [], 0), ("clash", [("help", 0, 1, 1), ("help", 1, 2, 1)]))
        self.assertEqual(keep(of(2, 2), [WARN], 0), ("clash", [("help", 0, 1, 2), ("help", 1, 2, 2)]))

    def test_a_turn_too_late(self):
        helps = [("help", 0, 1, 2), ("help", 1, 2, 2), ("help", 2, 3, 2)]
        self.assertEqual(keep(of(2, 2, 2), [], 0), ("clash", helps))
        self.assertEqual(keep(of(2, 2, 2, 9), [], 0), ("clash", helps))
        helps = [("help", 0, 1, 4), ("help", 1, 2, 2), ("help", 2, 3, 4), ("help", 3, 4, 4), ("help", 4, 5, 4)]
        self.assertEqual(keep(of(4, 2, 4, 4, 4), [], 0), ("clash", helps))
        self.assertEqual(keep(of(5, 5, 5, 5, 5), [WARN], 0)[0], "clash")
        self.assertEqual(len(keep(of(5, 5, 5, 5, 5), [WARN], 0)[1]), 5)

    def test_as_few_helps_as_can_be(self):
        for spans, few in (((1, 1, 2, 2), 2), ((1, 2, 2, 3), 3), ((2, 2, 2, 2, 2), 3), ((9, 2, 2, 2), 3),
                           ((4, 3, 3, 3, 3), 4), ((1, 1, 1, 1, 1), 2), ((5, 1, 3, 3, 3), 4)):
            told = keep(of(*spans), [], 0)
            self.assertEqual((told[0], len(told[1])), ("clash", few), spans)
            waiting = [(span, j, j + 1, 0) for j, span in enumerate(spans)]
            self.assertIn(told[1], least_clashes(waiting, [], 0))

    def test_a_shun_is_told_ahead_of_more_than_two_helps(self):
        world = world_of(5, [oath("help", 1, 30, span=3), oath("shun", 1, 16)])
        self.assertEqual(keep(world, [], 0), ("clash", [("help", 0, 4, 3), ("shun", 1, 4)]))

    def test_a_shun_or_two_helps(self):
        world = world_of(3, [oath("help", 1, 6, span=1), oath("shun", 1, 4)])
        told = keep(world, [], 0)
        self.assertIn(told[1], [[("help", 0, 1, 1), ("help", 0, 2, 1)], [("help", 0, 2, 1), ("shun", 1, 2)]])

    def test_each_clash_that_fits_is_one_of_the_oaths_that_fit(self):
        world = world_of(2, [oath(span=4), oath(span=2), oath("shun"), oath("shun", 3, 3), oath("shun", end=0)])
        told = keep(world, [], 0)
        self.assertIn(told, [("clash", [help_part, shun_part]) for help_part in (("help", 0, 1, 4), ("help", 1, 1, 2))
                             for shun_part in (("shun", 2, 1), ("shun", 3, 1))])

    def test_one_ward_by_several_oaths_is_no_clash_of_helps(self):
        world = world_of(3, [oath(span=1), oath(span=1), oath("help", 1, 4, span=2)])
        self.assertEqual(keep(world, [], 0), way(1, 2))
        world = world_of(3, [oath(span=1), oath(span=1), oath("help", 1, 4, span=1)])
        told = keep(world, [], 0)
        self.assertIn(told, [("clash", [("help", j, 1, 1), ("help", 2, 2, 1)]) for j in (0, 1)])

    def test_sorted_by_word_and_oath(self):
        world = world_of(3, [oath("help", 1, 4), oath("help", 1, 2)])
        self.assertEqual(keep(world, [], 0), ("clash", [("help", 0, 2, 1), ("help", 1, 1, 1)]))

    def test_by_what_was_broken(self):
        world = world_of(3, [oath("spare", 4, 2), oath("shun", 1, 2, ("broken", 0)), oath(span=9)])
        row = [("strike", 2, 1)]
        self.assertEqual(keep(world, row, 0), way(1))
        self.assertEqual(keep(world, row + [WARN], 0), ("clash", [("help", 2, 1, 9), ("shun", 1, 1)]))


class ManyWorlds(unittest.TestCase):
    def asked(self, seed, count, lands=(2, 3, 3, 4, 4), most_oaths=6, most_deeds=4):
        for world, row in histories(seed, count, lands, most_oaths, most_deeds):
            for a in range(world[0]):
                yield world, row, a, keep(world, row, a)

    def test_by_what_waits_and_the_reading(self):
        seen = {}
        for world, row, a, told in self.asked(70, 350):
            waiting = sorted([(due, j, b, since) for j, maker, b, since, due in waits(world, row) if maker == a])
            lost = broken(world, row)
            shuns = []
            for b in range(world[0]):
                if ("shun", a, b) in read(world, row)[0]:
                    shuns += [(j, b) for j in sure_by(world, row, lost, ("shun", a, b))]
            everything = parts_of(waiting, [])
            shunned = [("shun", j, b) for j, b in shuns]
            if can_be_kept(everything + shunned, len(row)):
                dues = {}
                for due, j, b, since in waiting:
                    dues[b] = min(due, dues.get(b, due))
                wards = sorted(dues, key=lambda b: (dues[b], b))
                self.assertEqual(told, ("way", [("help", a, b) for b in wards]), (world, row, a))
            else:
                self.assertEqual(told[0], "clash", (world, row, a))
                self.assertIn(told[1], least_clashes(waiting, shuns, len(row)), (world, row, a))
            kind = (told[0], len(told[1]), told[1][-1][0] if told[1] else None)
            seen[kind] = seen.get(kind, 0) + 1
        for kind in (("way", 0, None), ("way", 1, "help"), ("way", 2, "help"), ("way", 3, "help"),
                     ("clash", 2, "help"), ("clash", 2, "shun")):
            self.assertGreater(seen.get(kind, 0), 4, kind)

    def test_clashes_of_more_helps(self):
        found = set()
        for spans in itertools.product((1, 2, 3, 4), repeat=4):
            told = keep(of(*spans), [], 0)
            waiting = [(span, j, j + 1, 0) for j, span in enumerate(spans)]
            self.assertEqual(told[0] == "way", can_be_kept(parts_of(waiting, []), 0), spans)
            if told[0] == "clash":
                self.assertIn(told[1], least_clashes(waiting, [], 0))
                found.add(len(told[1]))
        self.assertEqual(found, {2, 3, 4})

    def test_a_way_put_behind_the_row_fails_nothing_of_what_waits(self):
        longest = 0
        for world, row, a, told in self.asked(71, 250):
            if told[0] == "clash":
                continue
            now = [(j, a, b, since) for j, maker, b, since, due in waits(world, row) if maker == a]
            longest = max(longest, len(told[1]))
            failed = breaches(world, row + told[1])
            self.assertFalse([breach for breach in failed if breach[1:] in now and breach[0] > len(row)])
            # At the end of the way nothing of it waits.
            still = [wait[:4] for wait in waits(world, row + told[1])]
            self.assertFalse([wait for wait in now if wait in still])
        self.assertGreater(longest, 2)

    def test_a_way_begins_with_a_help_that_is_not_shunned(self):
        for world, row, a, told in self.asked(72, 150):
            if told[0] == "way" and told[1]:
                story = Story(world, row + told[1][:1])
                broken_shuns = [breach for breach in story.breaches()
                                if breach[0] == len(row) + 1 and world[1][breach[1]][0] == "shun"]
                self.assertEqual(broken_shuns, [])

    def test_all_but_any_one_of_a_clash_could_be_kept(self):
        for world, row, a, told in self.asked(73, 250):
            if told[0] == "way":
                continue
            parts, now = told[1], len(row)
            self.assertEqual(parts, sorted(parts))
            self.assertFalse(can_be_kept(parts, now))
            for place in range(len(parts)):
                self.assertTrue(can_be_kept(parts[:place] + parts[place + 1:], now))
            for part in parts:
                if part[0] == "help":
                    self.assertIn((part[1], a, part[2], part[3]), [
                        (j, maker, b, due) for j, maker, b, since, due in waits(world, row)])
                else:
                    self.assertIn(part[1], sure_by(world, row, broken(world, row), ("shun", a, part[2])))

    def test_lands_exchanged(self):
        for world, row, a, told in self.asked(74, 60, (2, 3)):
            for lands in itertools.permutations(range(world[0])):
                other = world_of(world[0], [exchanged(one, lands) for one in world[1]])
                other_told = keep(other, [exchanged(deed, lands) for deed in row], lands[a])
                self.assertEqual((other_told[0], len(other_told[1])), (told[0], len(told[1])))
                if told[0] == "way":
                    deeds = sorted([("help", lands[a], lands[deed[2]]) for deed in told[1]])
                    self.assertEqual(sorted(other_told[1]), deeds)


class NothingIsShared(unittest.TestCase):
    def test_what_is_handed_in_is_not_changed(self):
        for world, row in histories(75, 60, (3, 4)):
            kept = list(row)
            for a in range(world[0]):
                first = keep(world, row, a)
                self.assertIsInstance(first, tuple)
                self.assertIsInstance(first[1], list)
                again = keep(world, row, a)
                self.assertIsNot(first[1], again[1])
                wiped(again)
                self.assertEqual(keep(world, row, a), first)
            self.assertEqual(row, kept)

    def test_a_row_changed_later_is_read_anew(self):
        row = []
        self.assertEqual(keep(of(2, 3), row, 0), way(1, 2))
        row.append(HELP)
        self.assertEqual(keep(of(2, 3), row, 0), way(2))
        row[0] = WARN
        self.assertEqual(keep(of(2, 3), row, 0), way(1, 2))
        row.append(WARN)
        self.assertEqual(keep(of(2, 3), row, 0), way(2))


if __name__ == "__main__":
    unittest.main()
