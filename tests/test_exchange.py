import itertools
import random
import unittest

from oathfall.exchange import exchanged, exchanged_row
from oathfall.falls import drawn
from oathfall.faults import excused, faults
from oathfall.keeping import keep
from oathfall.known import idle, known, leaning, leans, taken_out
from oathfall.looks import layers, looks, ring
from oathfall.oaths import world_of
from oathfall.times import breaches, broken, read, waits

import samples
from samples import YES, all_duties, cases, histories, look, oath

ROUND = [1, 2, 0]


def oath_with(condition):
    return oath("help", 1, 6, condition, span=1, first=2, end=1, knowers=3)


def condition_of(world):
    return world[1][0][3]


class Exchanged(unittest.TestCase):
    def told(self, condition, lands=(1, 2, 0)):
        return condition_of(exchanged(world_of(3, [oath_with(condition)]), list(lands)))

    def test_makers_wards_and_knowers(self):
        told = exchanged(world_of(3, [oath("shun", 1, 6, YES, 4, 5, 6, 3)]), ROUND)
        self.assertEqual(told, (3, (("shun", 2, 5, YES, 4, 5, 6, 6),)))

    def test_none_and_all_lands(self):
        told = exchanged(world_of(3, [oath("help", 0, 7, YES, knowers=0)]), ROUND)
        self.assertEqual(told, (3, (oath("help", 0, 7, YES, knowers=0),)))

    def test_span_first_and_end_stay(self):
        for span, first, end in itertools.product((1, 2, 9), (0, 1, 2, 16), (None, 0, 1, 2, 17)):
            told = exchanged(world_of(3, [oath("help", 0, 0, YES, span, first, end)]), ROUND)
            self.assertEqual(told[1][0][4:7], (span, first, end))

    def test_each_condition_with_lands_by_number(self):
        self.assertEqual(self.told(("did", "strike", 0, 2)), ("did", "strike", 1, 0))
        self.assertEqual(self.told(("began", 1, 0)), ("began", 2, 1))
        self.assertEqual(self.told(("owes", "help", 2, 1)), ("owes", "help", 0, 2))
        self.assertEqual(self.told(("among", 2, 5)), ("among", 0, 3))
        self.assertEqual(self.told(("some", 1, ("did", "help", "who", 0))), ("some", 2, ("did", "help", "who", 1)))
        for one in (("began", 0, 1), ("began", 1, 1)):
            other = ("began", ROUND[one[1]], ROUND[one[2]])
            self.assertEqual(self.told(("not", one)), ("not", other))
            for word in ("and", "or"):
                self.assertEqual(self.told((word, one, ("among", 0, 0))), (word, other, ("among", 1, 0)))
                self.assertEqual(self.told((word, ("among", 0, 0), one)), (word, ("among", 1, 0), other))

    def test_the_words_me_you_and_who_stay(self):
        for x, y in itertools.product(("me", "you", "who"), repeat=2):
            for c in (("did", "pass", x, y), ("began", x, y), look("spare", x, y)):
                self.assertEqual(self.told(("some", 7, c)), ("some", 7, c))
            self.assertEqual(self.told(("some", 7, ("among", x, 1))), ("some", 7, ("among", x, 2)))
            self.assertEqual(self.told(("some", 7, ("began", x, 0))), ("some", 7, ("began", x, 1)))
            self.assertEqual(self.told(("some", 7, ("began", 0, y))), ("some", 7, ("began", 1, y)))

    def test_the_numbers_of_oaths_stay(self):
        oaths = [oath(condition=("broken", j)) for j in range(8)]
        self.assertEqual([one[3] for one in exchanged(world_of(3, oaths), ROUND)[1]], [("broken", j) for j in range(8)])

    def test_somes_within_one_another(self):
        c = ("some", 3, ("or", ("some", 4, ("among", "who", 1)), ("some", 0, ("began", 2, "who"))))
        told = ("some", 6, ("or", ("some", 1, ("among", "who", 2)), ("some", 0, ("began", 0, "who"))))
        self.assertEqual(self.told(c), told)

    def test_by_the_list_that_leaves_all_as_they_are(self):
        for world, row in histories(750, 60, (1, 2, 3, 4, 6)):
            same = list(range(world[0]))
            self.assertEqual(exchanged(world, same), world)
            self.assertEqual(exchanged_row(row, same), row)

    def test_without_oaths_with_one_land_and_with_six(self):
        self.assertEqual(exchanged(world_of(1, []), [0]), (1, ()))
        self.assertEqual(exchanged(world_of(1, [oath("help", 1, 0, ("began", 0, "me"))]), [0]),
                         (1, (oath("help", 1, 0, ("began", 0, "me")),)))
        self.assertEqual(exchanged(world_of(6, []), [5, 4, 3, 2, 1, 0]), (6, ()))
        told = exchanged(world_of(6, [oath("help", 1, 6, ("among", 5, 32), knowers=56)] * 8), [5, 4, 3, 2, 1, 0])
        self.assertEqual(told, (6, (oath("help", 32, 24, ("among", 0, 1), knowers=7),) * 8))

    def test_what_is_told_is_a_world(self):
        for world, row in histories(751, 60):
            for lands in itertools.permutations(range(world[0])):
                n, oaths = exchanged(world, list(lands))
                self.assertEqual(world_of(n, list(oaths)), (n, oaths))

    def test_as_spelled_out(self):
        for world, row, oaths in itertools.chain(cases(752, 80, (1, 2, 3, 4)), cases(753, 20, (6,), 8)):
            draw = random.Random(repr(world))
            lands = draw.sample(range(world[0]), world[0])
            told = tuple([samples.exchanged(one, lands) for one in world[1]])
            self.assertEqual(exchanged(world, lands), (world[0], told))
            self.assertEqual(exchanged_row(row, lands), [samples.exchanged(deed, lands) for deed in row])

    def test_there_and_back(self):
        for world, row in histories(754, 60, (2, 3, 4)):
            for lands in itertools.permutations(range(world[0])):
                back = [lands.index(k) for k in range(world[0])]
                self.assertEqual(exchanged(exchanged(world, list(lands)), back), world)
                self.assertEqual(exchanged_row(exchanged_row(row, list(lands)), back), row)


class ExchangedRow(unittest.TestCase):
    def test_each_deed(self):
        row = [("strike", 0, 1), ("peace", 2, 0), ("help", 1, 2)]
        self.assertEqual(exchanged_row(row, ROUND), [("strike", 1, 2), ("peace", 0, 1), ("help", 2, 0)])
        self.assertEqual(exchanged_row([], ROUND), [])
        self.assertEqual(exchanged_row([], [0]), [])
        self.assertEqual(exchanged_row(row * 5, ROUND), exchanged_row(row, ROUND) * 5)

    def test_what_is_told_is_the_askers_own(self):
        row = [("strike", 0, 1)]
        told = exchanged_row(row, [0, 1])
        self.assertIsNot(told, row)
        told.clear()
        self.assertEqual(row, [("strike", 0, 1)])
        self.assertEqual(exchanged_row(row, [0, 1]), row)


class ExchangeAll(unittest.TestCase):
    def each(self, seed, count):
        """Tuples (world, row, lands, world exchanged, row exchanged)."""
        for world, row in histories(seed, count):
            for lands in itertools.permutations(range(world[0])):
                lands = list(lands)
                yield world, row, lands, exchanged(world, lands), exchanged_row(row, lands)

    def duties(self, told, lands):
        return sorted([(duty, lands[a], lands[b]) for duty, a, b in told])

    def test_readings(self):
        for world, row, lands, other, other_row in self.each(755, 60):
            sure, still_open = read(world, row)
            self.assertEqual(read(other, other_row), (self.duties(sure, lands), self.duties(still_open, lands)))

    def test_breaches_and_the_oaths_that_were_broken(self):
        for world, row, lands, other, other_row in self.each(756, 60):
            told = sorted([(turn, j, lands[a], lands[b], since) for turn, j, a, b, since in breaches(world, row)])
            self.assertEqual(breaches(other, other_row), told)
            self.assertEqual(broken(other, other_row), broken(world, row))

    def test_what_waits(self):
        for world, row, lands, other, other_row in self.each(757, 60):
            told = sorted([(j, lands[a], lands[b], since, due) for j, a, b, since, due in waits(world, row)])
            self.assertEqual(waits(other, other_row), told)

    def test_faults_and_what_is_excused(self):
        for world, row, lands, other, other_row in self.each(758, 60):
            for ask in (faults, excused):
                told = sorted([(turn, j, lands[a], lands[b], *rest) for turn, j, a, b, *rest in ask(world, row)])
                self.assertEqual(ask(other, other_row), told)

    def test_whether_a_land_can_keep_what_waits(self):
        for world, row, lands, other, other_row in self.each(759, 60):
            for a in range(world[0]):
                one, two = keep(world, row, a), keep(other, other_row, lands[a])
                self.assertEqual((one[0], len(one[1])), (two[0], len(two[1])))

    def test_who_is_drawn_in(self):
        for world, row, lands, other, other_row in self.each(760, 60):
            self.assertEqual(drawn(other, other_row), sorted([lands[a] for a in drawn(world, row)]))

    def test_looks_rings_and_layers(self):
        for world, row, lands, other, other_row in self.each(761, 40):
            self.assertEqual(ring(other) is None, ring(world) is None)
            told = layers(world)
            if told is not None:
                told = sorted([((duty, lands[a], lands[b]), layer) for (duty, a, b), layer in told])
            self.assertEqual(layers(other), told)
            for duty, a, b in all_duties(world[0]):
                seen = sorted([((word, lands[x], lands[y]), turned) for (word, x, y), turned in
                               looks(world, (duty, a, b))])
                self.assertEqual(looks(other, (duty, lands[a], lands[b])), seen)

    def test_what_is_known_taken_out_and_leaned_on(self):
        for world, row, lands, other, other_row in self.each(762, 40):
            for a in range(world[0]):
                self.assertEqual(known(other, lands[a]), exchanged(known(world, a), lands))
            for j in range(len(world[1])):
                self.assertEqual(taken_out(other, j), exchanged(taken_out(world, j), lands))
                self.assertEqual(leaning(other, j), self.duties(leaning(world, j), lands))
                for i in range(len(world[1])):
                    self.assertIs(leans(other, i, j), leans(world, i, j))

    def test_whether_an_oath_is_idle_and_up_to_where(self):
        for world, row, lands, other, other_row in self.each(763, 30):
            for j in range(len(world[1])):
                one = idle(world, j, [row[:k] for k in range(len(row) + 1)])
                two = idle(other, j, [other_row[:k] for k in range(len(row) + 1)])
                self.assertEqual(one and one[0], two and two[0])

    def test_what_is_handed_in_is_not_changed(self):
        for world, row in histories(764, 30):
            lands = list(range(world[0]))[::-1]
            kept = (repr(world), list(row), list(lands))
            exchanged(world, lands)
            exchanged_row(row, lands)
            self.assertEqual((repr(world), row, lands), kept)


if __name__ == "__main__":
    unittest.main()
