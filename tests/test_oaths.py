import itertools
import random
import unittest

from oathfall import oaths
from oathfall.errors import NoLand, NoOath, OathError, TooMany
from oathfall.oaths import DUTIES, duties, in_force, is_condition, owed_by, world_of

from samples import DONE, YES, all_duties, cases, depth, drawn_condition, may_owe, oath, parts

SIXTY_FIGURES = 10 ** 60 - 1
NO_LANDS = (-1, 6, 7, SIXTY_FIGURES, -SIXTY_FIGURES, "", "Me", "him", "a", "0", "me ", "mewho")

# One condition of each word, without who.
EACH_WORD = (
    ("yes",), ("did", "strike", "me", 2), ("began", 3, "you"), ("owes", "shun", "you", "me"), ("broken", 4),
    ("among", "you", 5), ("not", YES), ("and", YES, ("broken", 1)), ("or", ("broken", 0), YES), ("some", 6, YES),
)


def nots(count, condition):
    for each in range(count):
        condition = ("not", condition)
    return condition


def somes(count, condition):
    for each in range(count):
        condition = ("some", 1, condition)
    return condition


def ands(count):
    """A condition of so many parts, an odd number, as flat as can be."""
    if count == 1:
        return YES
    left = (count - 1) // 2
    left += 1 - left % 2
    return ("and", ands(left), ands(count - 1 - left))


# [6] by its words, each rule by itself.
def is_one(n, many, thing, around=()):
    def land(x):
        return x in range(n) or x in ("me", "you") or (x == "who" and "some" in around)

    def lands(number):
        return 0 <= number < 2 ** n

    def inner(part):
        return is_one(n, many, part, around + (thing[0],))

    match thing:
        case ("yes",):
            fits = True
        case ("did", word, x, y):
            fits = word in DONE and land(x) and land(y)
        case ("began", x, y):
            fits = land(x) and land(y)
        case ("owes", duty, x, y):
            fits = duty in ("help", "spare", "shun") and land(x) and land(y)
        case ("broken", j):
            fits = j in range(many)
        case ("among", x, number):
            fits = land(x) and lands(number)
        case ("not", c):
            fits = inner(c)
        case ("and" | "or", c, d):
            fits = inner(c) and inner(d)
        case ("some", number, c):
            fits = lands(number) and around.count("some") < 2 and inner(c)
        case _:
            fits = False
    return fits and (around != () or (parts(thing) <= 12 and depth(thing) <= 6))


class Conditions(unittest.TestCase):
    def yes(self, thing, n=6, many=8):
        self.assertIs(is_condition(n, many, thing), True, thing)

    def no(self, thing, n=6, many=8):
        self.assertIs(is_condition(n, many, thing), False, thing)

    def test_each_word(self):
        for condition in EACH_WORD:
            self.yes(condition)

    def test_too_few_or_too_many_parts_in_a_tuple(self):
        for condition in EACH_WORD:
            for more in (0, YES, "me"):
                self.no(condition + (more,))
                self.no(("not", condition + (more,)))
            if len(condition) > 1:
                self.no(condition[:-1])
                self.no(condition[:1])
                self.no(("or", YES, condition[:-1]))

    def test_another_word(self):
        for word in ("", "Yes", "yess", "no", "xor", "strike", "help", "me", "who", "all", "land", "condition"):
            for rest in ((), (0,), ("me", "you"), (YES,), (YES, YES), (1, YES), ("strike", "me", "you")):
                self.no((word,) + rest)
                self.no(("some", 1, (word,) + rest))

    def test_each_word_of_a_did_but_peace(self):
        for word in DONE:
            self.yes(("did", word, "me", "you"))
        for word in ("peace", "spare", "shun", "", "Strike", "strike ", "owes", "me"):
            self.no(("did", word, "me", "you"))

    def test_each_duty_of_an_owes(self):
        for duty in ("help", "spare", "shun"):
            self.yes(("owes", duty, "me", "you"))
        for duty in ("strike", "peace", "refuse", "", "Help", "helps", "me"):
            self.no(("owes", duty, "me", "you"))

    def with_land(self, x):
        return (
            ("did", "warn", x, "me"), ("did", "warn", 0, x), ("began", x, "you"), ("began", 0, x),
            ("owes", "help", x, "me"), ("owes", "spare", "you", x), ("among", x, 1), ("began", x, x),
        )

    def test_lands_and_the_words_me_and_you(self):
        for n in range(1, 7):
            for x in [*range(n), "me", "you"]:
                for condition in self.with_land(x):
                    self.yes(condition, n)
                    self.yes(("some", 1, condition), n)

    def test_a_land_that_is_none(self):
        for x in NO_LANDS:
            for condition in self.with_land(x):
                self.no(condition)
                self.no(("some", 1, condition))
        for n in range(1, 6):
            for condition in self.with_land(n):
                self.no(condition, n)
                self.yes(condition, n + 1)

    def test_who_within_a_some_alone(self):
        for condition in self.with_land("who"):
            self.no(condition)
            self.no(("not", condition))
            self.yes(("some", 0, condition))
            self.yes(("some", 1, ("not", ("and", YES, condition))))
            self.yes(("some", 1, ("some", 2, condition)))
            self.no(("and", ("some", 1, condition), condition))
            self.no(("or", condition, ("some", 1, condition)))
            self.yes(("some", 1, ("and", ("some", 1, condition), condition)))

    def test_oaths_numbers(self):
        for many in range(9):
            for j in range(many):
                self.yes(("broken", j), 6, many)
            for j in (-1, many, many + 1, SIXTY_FIGURES, -SIXTY_FIGURES):
                self.no(("broken", j), 6, many)
                self.no(nots(5, ("broken", j)), 6, many)

    def test_lands_as_bits(self):
        for n in range(1, 7):
            for lands in (0, 1, 2 ** n - 1):
                self.yes(("among", "me", lands), n)
                self.yes(("some", lands, YES), n)
            for lands in (-1, 2 ** n, 2 ** n + 1, -(2 ** n), SIXTY_FIGURES, -SIXTY_FIGURES):
                self.no(("among", "me", lands), n)
                self.no(("some", lands, YES), n)

    def test_twelve_parts_and_no_more(self):
        for count in (1, 3, 5, 7, 9, 11):
            self.assertEqual(parts(ands(count)), count)
            self.yes(ands(count))
            self.yes(("not", ands(count)))
        twelve = (("not", ands(11)), ("some", 3, ands(11)), ("or", ands(5), ("not", ands(5))))
        for condition in twelve:
            self.assertEqual(parts(condition), 12)
            self.assertLess(depth(condition), 6)
            self.yes(condition)
        thirteen = (ands(13), ("not", ("not", ands(11))), ("some", 3, ("not", ands(11))), ("or", ands(11), YES))
        for condition in thirteen:
            self.assertEqual(parts(condition), 13)
            self.assertLess(depth(condition), 7)
            self.no(condition)
        for count in (15, 31, 63):
            self.assertLess(depth(ands(count)), 7)
            self.no(ands(count))

    def test_the_same_tuple_at_two_places_counts_twice(self):
        four = ("not", ("and", YES, YES))
        self.yes(("and", four, four))
        self.no(("or", ("and", four, four), four))

    def test_six_deep_and_no_deeper(self):
        for leaf in (YES, ("broken", 7), ("did", "call", "me", "you"), ("among", 1, 1)):
            for count in range(6):
                self.yes(nots(count, leaf))
            for count in range(6, 40):
                self.no(nots(count, leaf))
        one_sided = YES
        for each in range(5):
            one_sided = ("or", YES, one_sided)
        self.assertEqual((depth(one_sided), parts(one_sided)), (6, 11))
        self.yes(one_sided)
        self.yes(("and", YES, nots(4, YES)))
        self.no(("and", YES, nots(5, YES)))
        self.no(("and", nots(5, YES), YES))

    def test_at_all_three_bounds_and_beyond_each_alone(self):
        def made(inner, last):
            return ("some", 1, ("some", 2, ("and", ("or", inner, ("and", YES, YES)), ("or", YES, last))))

        at_all = made(("not", YES), YES)
        self.assertEqual((parts(at_all), depth(at_all)), (12, 6))
        self.yes(at_all)
        too_many = made(("not", YES), ("not", YES))
        self.assertEqual((parts(too_many), depth(too_many)), (13, 6))
        self.no(too_many)
        too_deep = ("some", 1, ("some", 2, ("and", ("or", nots(2, YES), YES), ("or", YES, ("not", YES)))))
        self.assertEqual((parts(too_deep), depth(too_deep)), (12, 7))
        self.no(too_deep)
        three_somes = made(("some", 4, YES), YES)
        self.assertEqual((parts(three_somes), depth(three_somes)), (12, 6))
        self.no(three_somes)

    def test_two_somes_within_one_another_and_no_more(self):
        for who in ("me", "who"):
            leaf = ("among", who, 1)
            self.yes(somes(1, leaf))
            self.yes(somes(2, leaf))
            self.no(somes(3, leaf))
            self.no(("some", 1, ("not", ("some", 1, ("not", ("some", 1, leaf))))))
            self.no(("some", 0, ("some", 0, ("some", 0, leaf))))
            self.yes(("and", somes(2, leaf), somes(2, leaf)))
            self.yes(("some", 1, ("or", somes(1, leaf), somes(1, leaf))))
            self.no(("some", 1, ("or", somes(1, leaf), somes(2, leaf))))
            self.no(("some", 1, ("or", somes(2, leaf), somes(1, leaf))))

    def test_forty_deep_with_more_parts_than_can_be_gone_through(self):
        for leaf in (YES, ("maybe",), ("among", "who", 1)):
            for word in ("and", "or"):
                condition = leaf
                for each in range(39):
                    condition = (word, condition, condition)
                self.no(condition)
                self.no(("not", condition))
                self.no(("and", YES, condition))
        self.no(somes(39, YES))

    def test_what_is_no_tuple_of_a_word_and_more(self):
        for thing in ((), ("not", ()), ("not", 5), ("and", YES, "yes"), ("some", YES, 1), ("among", "me", YES)):
            self.no(thing)

    def test_truths_are_no_whole_numbers(self):
        self.no(("broken", True))
        self.no(("among", "me", True))
        self.no(("began", False, "me"))

    def test_many_conditions_by_the_words_of_the_document(self):
        draw = random.Random(6)
        told = []
        for each in range(4000):
            # Drawn for more lands, oaths and depth than it is asked for: so that some are conditions.
            n, many = draw.randrange(1, 4), draw.randrange(4)
            condition = drawn_condition(draw, n + draw.randrange(2), many + draw.randrange(2), draw.randrange(1, 8))
            told.append(is_one(n, many, condition))
            self.assertIs(is_condition(n, many, condition), told[-1], (n, many, condition))
        self.assertGreater(told.count(True), 1000)
        self.assertGreater(told.count(False), 1000)

    def test_each_part_exchanged_for_another_one_of_its_kind(self):
        texts = ["me", "who", "him", "strike", "peace", "help", "yes", "broken", "began"]
        numbers = [-1, 0, 2, 3, 7, 8, SIXTY_FIGURES]
        lands = (("did", 2), ("did", 3), ("owes", 2), ("owes", 3), ("began", 1), ("began", 2), ("among", 1))
        draw = random.Random(7)
        told = []
        for each in range(3000):
            condition = drawn_condition(draw, 3, 2, 3)
            place = draw.randrange(len(condition))
            if isinstance(condition[place], tuple):
                others = [YES, ("broken", 2), ("began", 0, "who"), nots(5, YES), somes(2, YES)]
            elif (condition[0], place) in lands:
                others = texts + numbers
            else:
                others = texts if isinstance(condition[place], str) else numbers
            changed = condition[:place] + (draw.choice(others),) + condition[place + 1:]
            told.append(is_one(3, 2, changed))
            self.assertIs(is_condition(3, 2, changed), told[-1], changed)
        self.assertGreater(told.count(True), 500)
        self.assertGreater(told.count(False), 500)


class Worlds(unittest.TestCase):
    def refused(self, error, n, handed):
        with self.assertRaises(error) as taken:
            world_of(n, handed)
        self.assertIsInstance(taken.exception, OathError)
        self.assertIs(type(taken.exception), error)
        return taken.exception

    def no_oath(self, bad, n=3):
        """Refused with its own number wherever it stands, and with the first such number."""
        good = oath()
        for place in range(4):
            handed = [good] * place + [bad] + [good] * (3 - place)
            self.assertEqual(self.refused(NoOath, n, handed).number, place, bad)
        self.assertEqual(self.refused(NoOath, n, [good, bad, bad, good, bad]).number, 1)

    def test_without_oaths(self):
        for n in range(1, 7):
            self.assertEqual(world_of(n, []), (n, ()))

    def test_a_world_is_a_tuple_of_its_oaths(self):
        handed = [oath(), oath("spare", 3, 3, ("broken", 1), 9, 16, 17, 3), oath("shun", 0, 0, ("not", YES), end=0)]
        world = world_of(2, handed)
        self.assertEqual(world, (2, tuple(handed)))
        self.assertIsInstance(world, tuple)
        self.assertIsInstance(world[1], tuple)

    def test_eight_oaths_and_no_more(self):
        self.assertEqual(world_of(6, [oath()] * 8), (6, (oath(),) * 8))
        for count in (9, 10, 30):
            self.refused(TooMany, 6, [oath()] * count)

    def test_number_of_lands(self):
        for n in (0, -1, 7, 8, SIXTY_FIGURES, -SIXTY_FIGURES, True):
            self.refused(NoLand, n, [])

    def test_the_order_of_refusals(self):
        bad = oath(span=0)
        for n in (0, 7, -5):
            self.refused(NoLand, n, [bad] * 9)
            self.refused(NoLand, n, [oath()] * 9)
            self.refused(NoLand, n, [bad])
        self.refused(TooMany, 6, [bad] * 9)
        self.refused(TooMany, 6, [oath()] * 8 + [bad])
        self.assertEqual(self.refused(NoOath, 6, [oath()] * 7 + [bad]).number, 7)

    def test_duties(self):
        for duty in DUTIES:
            self.assertEqual(world_of(2, [oath(duty)]), (2, (oath(duty),)))
        for duty in ("", "Help", "strike", "peace", "owes", "helps", "help "):
            self.no_oath(oath(duty))

    def test_bits_of_makers_wards_and_knowers(self):
        for n in range(1, 7):
            for bits in (0, 1, 2 ** n - 1):
                for one in (oath("help", bits, 1), oath("help", 1, bits), oath("help", 1, 1, knowers=bits)):
                    self.assertEqual(world_of(n, [one]), (n, (one,)))
            for bits in (-1, 2 ** n, 2 ** n + 1, SIXTY_FIGURES, -SIXTY_FIGURES):
                for one in (oath("help", bits, 1), oath("help", 1, bits), oath("help", 1, 1, knowers=bits)):
                    self.assertEqual(self.refused(NoOath, n, [one]).number, 0)

    def test_spans(self):
        for span in range(1, 10):
            self.assertEqual(world_of(2, [oath(span=span)])[1][0][4], span)
        for span in (0, 10, -1, SIXTY_FIGURES, -SIXTY_FIGURES):
            self.no_oath(oath(span=span))

    def test_firsts(self):
        for first in range(17):
            self.assertEqual(world_of(2, [oath(first=first)])[1][0][5], first)
        for first in (-1, 17, 18, SIXTY_FIGURES, -SIXTY_FIGURES):
            self.no_oath(oath(first=first))

    def test_ends(self):
        for end in [None, *range(18)]:
            self.assertEqual(world_of(2, [oath(end=end)])[1][0][6], end)
            self.assertEqual(world_of(2, [oath(first=16, end=end)])[1][0][6], end)
        for end in (-1, 18, 19, SIXTY_FIGURES, -SIXTY_FIGURES):
            self.no_oath(oath(end=end))

    def test_conditions(self):
        bad = (
            ("maybe",), ("yes", 1), ("not",), ("did", "peace", "me", "you"), ("owes", "warn", "me", "you"),
            ("began", "me", 3), ("began", "who", "me"), ("broken", -1), ("among", "me", 8), ("some", -1, YES),
            ands(13), nots(6, YES), somes(3, YES), nots(39, YES),
        )
        for condition in bad:
            self.no_oath(oath(condition=condition))
        for condition in (ands(11), ("not", ands(11)), nots(5, YES), somes(2, ("began", "who", "me"))):
            self.assertEqual(world_of(3, [oath(condition=condition)])[1][0][3], condition)

    def test_too_few_or_too_many_parts(self):
        self.no_oath(oath()[:7])
        self.no_oath(oath() + (0,))

    def test_more_parts_than_can_be_gone_through(self):
        condition = YES
        for each in range(39):
            condition = ("and", condition, condition)
        self.no_oath(oath(condition=condition))

    def test_broken_with_a_number_of_the_world(self):
        for many in range(1, 9):
            for j in range(many):
                for place in range(many):
                    handed = [oath()] * many
                    handed[place] = oath(condition=("broken", j))
                    self.assertEqual(world_of(2, handed), (2, tuple(handed)))
            handed = [oath()] * (many - 1) + [oath(condition=("broken", many))]
            self.assertEqual(self.refused(NoOath, 2, handed).number, many - 1)

    def test_lands_of_a_condition_are_those_of_the_world(self):
        for n in range(1, 7):
            one = oath("help", 1, 1, ("began", n - 1, "me"))
            self.assertEqual(world_of(n, [one]), (n, (one,)))
            if n > 1:
                self.assertEqual(self.refused(NoOath, n - 1, [one]).number, 0)

    def test_what_is_handed_in_is_not_changed_and_not_kept(self):
        handed = [oath(), oath("shun")]
        kept = list(handed)
        world = world_of(3, handed)
        self.assertEqual(handed, kept)
        handed.clear()
        self.assertEqual(world, (3, tuple(kept)))
        handed += [oath(span=0)]
        with self.assertRaises(NoOath):
            world_of(3, handed)
        self.assertEqual(handed, [oath(span=0)])


class InForce(unittest.TestCase):
    def test_by_first_and_end(self):
        for first, end in itertools.product(range(17), [None, *range(18)]):
            one = oath(first=first, end=end)
            for k in range(19):
                self.assertIs(in_force(one, k), k >= first and (end is None or k < end), (first, end, k))

    def test_ends(self):
        self.assertIs(in_force(oath(first=0, end=None), 0), True)
        self.assertIs(in_force(oath(first=0, end=0), 0), False)
        self.assertIs(in_force(oath(first=16, end=17), 15), False)
        self.assertIs(in_force(oath(first=16, end=17), 16), True)
        self.assertIs(in_force(oath(first=16, end=17), 17), False)
        self.assertIs(in_force(oath(first=16, end=None), SIXTY_FIGURES), True)
        self.assertIs(in_force(oath(first=3, end=3), 3), False)

    def test_on_nothing_else(self):
        for duty, bits, span in itertools.product(DUTIES, (0, 3), (1, 9)):
            one = oath(duty, bits, bits, ("not", YES), span, 2, 4, bits)
            self.assertEqual([in_force(one, k) for k in range(6)], [False, False, True, True, False, False])


class Owed(unittest.TestCase):
    def test_by_duty_makers_and_wards(self):
        world = world_of(3, [oath("help", 3, 6), oath("shun", 3, 6), oath("help", 7, 7), oath("help", 2, 4)])
        self.assertEqual(owed_by(world, ("help", 0, 1)), [0, 2])
        self.assertEqual(owed_by(world, ("help", 1, 2)), [0, 2, 3])
        self.assertEqual(owed_by(world, ("help", 2, 1)), [2])
        self.assertEqual(owed_by(world, ("shun", 0, 2)), [1])
        self.assertEqual(owed_by(world, ("shun", 2, 0)), [])
        self.assertEqual(owed_by(world, ("spare", 0, 1)), [])

    def test_whether_in_force_or_not_and_whatever_the_condition(self):
        world = world_of(2, [oath(end=0), oath(first=16), oath(condition=("not", YES)), oath(condition=("broken", 3))])
        self.assertEqual(owed_by(world, ("help", 0, 1)), [0, 1, 2, 3])

    def test_no_oaths_no_makers_no_wards(self):
        world = world_of(2, [oath("help", 0, 3), oath("help", 3, 0), oath("help", 0, 0)])
        for duty in all_duties(2):
            self.assertEqual(owed_by(world_of(2, []), duty), [])
            self.assertEqual(owed_by(world, duty), [])

    def test_no_land_owes_itself(self):
        world = world_of(2, [oath("help", 3, 3), oath("help", 1, 1)])
        self.assertEqual(owed_by(world, ("help", 0, 1)), [0])
        self.assertEqual(owed_by(world, ("help", 0, 0)), [])

    def test_many_worlds(self):
        for world, row, broken in cases(8, 150, (1, 2, 3, 6), 8):
            self.assertEqual(world_of(world[0], list(world[1])), world)
            for duty in all_duties(world[0]):
                told = [j for j, one in enumerate(world[1]) if may_owe(one, duty)]
                self.assertEqual(owed_by(world, duty), told)

    def test_what_is_told_is_the_askers_own(self):
        world = world_of(2, [oath()])
        owed_by(world, ("help", 0, 1)).append(5)
        self.assertEqual(owed_by(world, ("help", 0, 1)), [0])


class Duties(unittest.TestCase):
    def test_the_three(self):
        self.assertEqual(DUTIES, ("help", "spare", "shun"))
        self.assertIsInstance(DUTIES, tuple)

    def test_all_of_them_sorted(self):
        self.assertEqual(duties(1), [])
        self.assertEqual(duties(2), [
            ("help", 0, 1), ("help", 1, 0), ("shun", 0, 1), ("shun", 1, 0), ("spare", 0, 1), ("spare", 1, 0),
        ])
        for n in range(1, 7):
            self.assertEqual(duties(n), all_duties(n))
            self.assertEqual(len(duties(n)), 3 * n * (n - 1))

    def test_what_is_told_is_the_askers_own(self):
        duties(3).clear()
        self.assertEqual(len(duties(3)), 18)

    def test_the_module_keeps_nothing_that_is_told(self):
        kept = dict(oaths.SHAPES)
        duties(3)
        world_of(2, [oath()])
        is_condition(2, 1, ("broken", 0))
        self.assertEqual(oaths.SHAPES, kept)


if __name__ == "__main__":
    unittest.main()
