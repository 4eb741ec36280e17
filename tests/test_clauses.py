import itertools
import unittest

from oathfall import clauses
from oathfall.clauses import (
    Among, And, Began, Broken, Clause, Did, Not, Or, Owes, Some, View, Yes, clause_of, holds,
)
from oathfall.errors import OathError

KINDS = (Yes, Did, Began, Owes, Broken, Among, Not, And, Or, Some)
DONE = ("strike", "pass", "warn", "call", "help", "refuse")
DUTIES = ("help", "spare", "shun")

# One condition of each word, the class of that word, and the same made by the classes.
EACH_WORD = (
    (("yes",), Yes, Yes()),
    (("did", "strike", "me", 2), Did, Did("strike", "me", 2)),
    (("began", 3, "you"), Began, Began(3, "you")),
    (("owes", "shun", "you", "me"), Owes, Owes("shun", "you", "me")),
    (("broken", 4), Broken, Broken(4)),
    (("among", "you", 5), Among, Among("you", 5)),
    (("not", ("yes",)), Not, Not(Yes())),
    (("and", ("yes",), ("broken", 1)), And, And(Yes(), Broken(1))),
    (("or", ("broken", 0), ("yes",)), Or, Or(Broken(0), Yes())),
    (("some", 6, ("among", "who", 3)), Some, Some(6, Among("who", 3))),
)

DEEP = (
    "some", 15, (
        "and",
        ("did", "strike", "who", "you"),
        ("not", ("some", 0, ("or", ("owes", "help", "me", "who"), ("among", "who", 63)))),
    ),
)
DEEP_MADE = Some(15, And(
    Did("strike", "who", "you"),
    Not(Some(0, Or(Owes("help", "me", "who"), Among("who", 63)))),
))

EMPTY = View([], [], [], [])


class Asking(unittest.TestCase):
    # Every way to ask must tell the same, and True or False itself.
    def check(self, condition, view, me, you, asked):
        self.assertIs(holds(condition, view, me, you), asked, condition)
        self.assertIs(clause_of(condition).holds(view, me, you), asked, condition)


class Kinds(unittest.TestCase):
    def test_each_stands_straight_under_clause(self):
        for kind in KINDS:
            self.assertEqual(kind.__bases__, (Clause,), kind)

    def test_none_stands_under_another_one(self):
        for one, other in itertools.permutations(KINDS, 2):
            self.assertFalse(issubclass(one, other), (one, other))

    def test_no_further_class_stands_under_clause(self):
        self.assertEqual(len(Clause.__subclasses__()), 10)

    def test_a_view_is_no_clause(self):
        self.assertFalse(issubclass(View, Clause))


class Told(unittest.TestCase):
    def assert_tuples(self, told):
        self.assertIsInstance(told, tuple)
        for part in told:
            self.assertNotIsInstance(part, (list, dict, set, Clause))
            if isinstance(part, tuple):
                self.assert_tuples(part)

    def test_clause_of_tells_the_class_of_its_word_and_no_other(self):
        for condition, kind, made in EACH_WORD:
            for other in KINDS:
                self.assertEqual(isinstance(clause_of(condition), other), other is kind, condition)
                self.assertEqual(isinstance(made, other), other is kind, condition)

    def test_told_is_the_condition(self):
        for condition, kind, made in EACH_WORD:
            self.assertEqual(clause_of(condition).told(), condition)
            self.assertEqual(made.told(), condition)
            self.assert_tuples(clause_of(condition).told())
            self.assert_tuples(made.told())

    def test_each_word_and_each_land(self):
        for x, y in itertools.product((0, 1, 5, "me", "you", "who"), repeat=2):
            conditions = [("began", x, y), ("among", x, 9)]
            conditions += [("did", word, x, y) for word in DONE]
            conditions += [("owes", duty, x, y) for duty in DUTIES]
            for condition in conditions:
                self.assertEqual(clause_of(condition).told(), condition)

    def test_several_deep_with_two_somes_within_one_another(self):
        self.assertEqual(clause_of(DEEP).told(), DEEP)
        self.assertEqual(DEEP_MADE.told(), DEEP)
        self.assert_tuples(DEEP_MADE.told())

    def test_the_order_of_parts_stays(self):
        one = ("and", ("broken", 1), ("or", ("broken", 2), ("broken", 3)))
        other = ("and", ("or", ("broken", 3), ("broken", 2)), ("broken", 1))
        self.assertEqual(clause_of(one).told(), one)
        self.assertEqual(clause_of(other).told(), other)

    def test_within_each_word_that_has_conditions(self):
        for condition, kind, made in EACH_WORD:
            for other, other_kind, other_made in EACH_WORD:
                pairs = (
                    (("not", condition), Not(made)),
                    (("some", 7, condition), Some(7, made)),
                    (("and", condition, other), And(made, other_made)),
                    (("or", condition, other), Or(made, other_made)),
                )
                for whole, whole_made in pairs:
                    self.assertEqual(clause_of(whole).told(), whole)
                    self.assertEqual(whole_made.told(), whole)

    def test_another_word_is_refused(self):
        for word in ("maybe", "Yes", "", "strike", "help"):
            with self.assertRaises(OathError):
                clause_of((word, 1, ("yes",)))
            with self.assertRaises(OathError):
                holds(("not", (word, 1, ("yes",))), EMPTY, 0, 1)

    def test_forty_deep(self):
        condition = ("broken", 7)
        for step in range(39):
            condition = ("not", condition)
        self.assertEqual(clause_of(condition).told(), condition)
        self.assertIs(holds(condition, EMPTY, 0, 1), True)


class Holding(Asking):
    def test_yes_always(self):
        full = View([("strike", 0, 1)], [("help", 0, 1)], [("help", 0, 1)], [0, 1])
        for view in (EMPTY, full):
            for me, you in itertools.permutations(range(6), 2):
                self.check(("yes",), view, me, you, True)

    def test_did(self):
        for word in DONE:
            view = View([(word, 2, 4)], [], [], [])
            for asked in DONE:
                self.check(("did", asked, 2, 4), view, 0, 1, asked == word)
                self.check(("did", asked, "me", "you"), view, 2, 4, asked == word)
            self.check(("did", word, 4, 2), view, 0, 1, False)
            self.check(("did", word, "you", "me"), view, 2, 4, False)
            self.check(("did", word, "you", "me"), view, 4, 2, True)
            self.check(("did", word, "me", 4), view, 2, 0, True)
            self.check(("did", word, 2, "you"), view, 0, 4, True)
            self.check(("did", word, "me", "you"), EMPTY, 2, 4, False)

    def test_did_looks_behind_the_last_peace(self):
        view = View([("warn", 0, 1), ("peace", 1, 0), ("call", 0, 1)], [], [], [])
        self.check(("did", "warn", "me", "you"), view, 0, 1, False)
        self.check(("did", "call", "me", "you"), view, 0, 1, True)

    def test_began(self):
        view = View([("strike", 2, 4), ("strike", 4, 2), ("warn", 0, 1)], [], [], [])
        self.check(("began", 2, 4), view, 0, 1, True)
        self.check(("began", 4, 2), view, 0, 1, False)
        self.check(("began", "me", "you"), view, 2, 4, True)
        self.check(("began", "you", "me"), view, 2, 4, False)
        self.check(("began", "you", "me"), view, 4, 2, True)
        self.check(("began", "me", "you"), view, 0, 1, False)
        self.check(("began", 2, 4), EMPTY, 0, 1, False)

    def test_owes(self):
        for duty in DUTIES:
            view = View([], [(duty, 2, 4)], [], [])
            for asked in DUTIES:
                self.check(("owes", asked, 2, 4), view, 0, 1, asked == duty)
                self.check(("owes", asked, "me", "you"), view, 2, 4, asked == duty)
            self.check(("owes", duty, 4, 2), view, 0, 1, False)
            self.check(("owes", duty, "you", "me"), view, 4, 2, True)
            self.check(("owes", duty, "me", 4), view, 2, 0, True)
            self.check(("owes", duty, "me", "you"), EMPTY, 2, 4, False)

    def test_x_and_y_alike(self):
        every_deed = [("strike", a, b) for a, b in itertools.product(range(3), repeat=2)]
        every_duty = [("help", a, b) for a, b in itertools.product(range(3), repeat=2)]
        view = View(every_deed, every_duty, every_duty, [])
        for x, y in ((1, 1), ("me", "me"), ("you", "you"), ("me", 0), (0, "me"), ("you", 1), (1, "you")):
            self.check(("did", "strike", x, y), view, 0, 1, False)
            self.check(("began", x, y), view, 0, 1, False)
            self.check(("owes", "help", x, y), view, 0, 1, False)
            self.check(("not", ("owes", "help", x, y)), view, 0, 1, True)
        for condition in (("did", "strike", "who", "me"), ("began", "me", "who"), ("owes", "help", "who", "me")):
            self.check(("some", 1, condition), view, 0, 1, False)
            self.check(("some", 3, condition), view, 0, 1, True)

    def test_broken(self):
        view = View([], [], [], [5, 0, 5])
        for j in range(8):
            self.check(("broken", j), view, 0, 1, j in (0, 5))
            self.check(("broken", j), EMPTY, 0, 1, False)

    def test_among(self):
        for lands in range(64):
            for land in range(6):
                inside = lands & (1 << land) != 0
                self.check(("among", land, lands), EMPTY, 0, 1, inside)
                self.check(("among", "me", lands), EMPTY, land, 1, inside)
                self.check(("among", "you", lands), EMPTY, 0, land, inside)

    def test_among_beyond_the_lands(self):
        for land in (-1, 6, 10 ** 60 - 1):
            self.check(("among", land, 63), EMPTY, 0, 1, False)
        self.check(("among", 0, 10 ** 59 + 1), EMPTY, 0, 1, True)

    def test_not_and_or(self):
        view = View([], [], [], [1])
        for c, d in itertools.product((0, 1), repeat=2):
            self.check(("not", ("broken", c)), view, 0, 1, c == 0)
            self.check(("and", ("broken", c), ("broken", d)), view, 0, 1, c == 1 and d == 1)
            self.check(("or", ("broken", c), ("broken", d)), view, 0, 1, c == 1 or d == 1)

    def test_made_by_the_classes_themselves(self):
        view = View([("strike", 0, 1)], [("help", 0, 1)], [("shun", 0, 1)], [3])
        made = (
            (Yes(), True), (Did("strike", "me", "you"), True), (Did("warn", "me", "you"), False),
            (Began("me", "you"), True), (Began("you", "me"), False),
            (Owes("help", "me", "you"), True), (Owes("shun", "me", "you"), False),
            (Broken(3), True), (Broken(2), False), (Among("you", 2), True), (Among("you", 1), False),
            (Not(Yes()), False), (Not(Broken(2)), True), (And(Yes(), Broken(3)), True),
            (And(Yes(), Broken(2)), False), (Or(Broken(2), Yes()), True), (Or(Broken(2), Broken(1)), False),
            (Some(2, Did("strike", "me", "who")), True), (Some(1, Did("strike", "me", "who")), False),
        )
        for clause, asked in made:
            self.assertIs(clause.holds(view, 0, 1), asked, clause.told())


class Turning(Asking):
    PLAIN = View([], [("help", 0, 1)], [], [])
    TURNED = View([], [], [("help", 0, 1)], [])
    LOOK = ("owes", "help", "me", "you")

    def test_no_not_is_read_by_the_plain_list(self):
        self.check(self.LOOK, self.PLAIN, 0, 1, True)
        self.check(self.LOOK, self.TURNED, 0, 1, False)

    def test_one_not_is_read_by_the_turned_list(self):
        self.check(("not", self.LOOK), self.PLAIN, 0, 1, True)
        self.check(("not", self.LOOK), self.TURNED, 0, 1, False)

    def test_two_nots_are_read_by_the_plain_list_again(self):
        twice = ("not", ("not", self.LOOK))
        self.check(twice, self.PLAIN, 0, 1, True)
        self.check(twice, self.TURNED, 0, 1, False)

    def test_three_nots_are_read_by_the_turned_list(self):
        thrice = ("not", ("not", ("not", self.LOOK)))
        self.check(thrice, self.PLAIN, 0, 1, True)
        self.check(thrice, self.TURNED, 0, 1, False)

    def test_and_or_some_turn_nothing(self):
        wholes = (
            ("and", ("yes",), self.LOOK), ("and", self.LOOK, ("yes",)),
            ("or", ("broken", 0), self.LOOK), ("or", self.LOOK, ("broken", 0)),
            ("some", 1, self.LOOK), ("some", 2, ("owes", "help", 0, "who")),
        )
        for whole in wholes:
            self.check(whole, self.PLAIN, 0, 1, True)
            self.check(whole, self.TURNED, 0, 1, False)
            self.check(("not", whole), self.PLAIN, 0, 1, True)
            self.check(("not", whole), self.TURNED, 0, 1, False)

    def test_a_not_within_and_or_some_turns_its_own_look_alone(self):
        self.check(("and", self.LOOK, ("not", self.LOOK)), self.PLAIN, 0, 1, True)
        self.check(("and", self.LOOK, ("not", self.LOOK)), self.TURNED, 0, 1, False)
        self.check(("and", ("not", self.LOOK), self.LOOK), self.PLAIN, 0, 1, True)
        self.check(("or", ("not", self.LOOK), self.LOOK), self.TURNED, 0, 1, False)
        self.check(("some", 1, ("not", ("owes", "help", "who", 1))), self.PLAIN, 0, 1, True)
        self.check(("some", 1, ("not", ("owes", "help", "who", 1))), self.TURNED, 0, 1, False)

    def test_other_words_hang_on_no_list_of_duties(self):
        view = View([("strike", 0, 1)], [], [], [2])
        for condition in (("did", "strike", 0, 1), ("began", 0, 1), ("broken", 2), ("among", 0, 1), ("yes",)):
            self.check(("not", condition), view, 0, 1, False)
            self.check(("not", ("not", condition)), view, 0, 1, True)


class TheSameObject(unittest.TestCase):
    def test_by_itself_within_a_not_and_asked_again(self):
        look = Owes("help", "me", "you")
        turned = Not(look)
        back = Not(turned)
        for times in range(2):
            for view, stands in ((Turning.PLAIN, True), (Turning.TURNED, False)):
                self.assertIs(look.holds(view, 0, 1), stands)
                self.assertIs(turned.holds(view, 0, 1), stands)
                self.assertIs(back.holds(view, 0, 1), stands)
                self.assertIs(look.holds(view, 0, 1), stands)

    def test_at_two_places_of_one_condition(self):
        look = Owes("help", "me", "you")
        whole = And(look, Not(look))
        other = Or(Not(look), look)
        both = View([], [("help", 0, 1)], [("help", 0, 1)], [])
        for times in range(2):
            self.assertIs(whole.holds(Turning.PLAIN, 0, 1), True)
            self.assertIs(whole.holds(Turning.TURNED, 0, 1), False)
            self.assertIs(whole.holds(both, 0, 1), False)
            self.assertIs(other.holds(Turning.PLAIN, 0, 1), True)
            self.assertIs(other.holds(Turning.TURNED, 0, 1), False)
            self.assertIs(other.holds(both, 0, 1), True)
            self.assertIs(other.holds(EMPTY, 0, 1), True)
            self.assertIs(look.holds(Turning.PLAIN, 0, 1), True)
            self.assertIs(look.holds(Turning.TURNED, 0, 1), False)
        self.assertEqual(whole.told(), ("and", look.told(), ("not", look.told())))

    def test_a_some_at_two_places(self):
        some = Some(7, Owes("help", "who", "you"))
        whole = And(some, Not(some))
        self.assertIs(whole.holds(Turning.PLAIN, 2, 1), True)
        self.assertIs(whole.holds(Turning.TURNED, 2, 1), False)
        self.assertIs(some.holds(Turning.PLAIN, 2, 1), True)

    def test_for_several_lands_and_by_several_views(self):
        look = Owes("help", "me", "you")
        first = View([], [("help", 0, 1)], [], [])
        second = View([], [("help", 1, 0)], [], [])
        for times in range(2):
            self.assertIs(look.holds(first, 0, 1), True)
            self.assertIs(look.holds(second, 0, 1), False)
            self.assertIs(look.holds(first, 1, 0), False)
            self.assertIs(look.holds(second, 1, 0), True)

    def test_who_is_forgotten_behind_a_some(self):
        inner = Among("who", 4)
        self.assertIs(Some(4, inner).holds(EMPTY, 0, 1), True)
        self.assertIs(Some(2, inner).holds(EMPTY, 0, 1), False)
        self.assertIs(Some(4, inner).holds(EMPTY, 0, 1), True)


class Somes(Asking):
    def test_no_lands(self):
        self.check(("some", 0, ("yes",)), EMPTY, 0, 1, False)
        self.check(("not", ("some", 0, ("yes",))), EMPTY, 0, 1, True)

    def test_each_land_is_tried(self):
        for lands in range(64):
            for land in range(6):
                view = View([("call", land, (land + 1) % 6)], [], [], [])
                condition = ("some", lands, ("did", "call", "who", (land + 1) % 6))
                self.check(condition, view, 0, 1, lands & (1 << land) != 0)

    def test_who_does_not_matter_where_it_does_not_stand(self):
        for lands in range(1, 64):
            self.check(("some", lands, ("yes",)), EMPTY, 0, 1, True)
            self.check(("some", lands, ("broken", 0)), EMPTY, 0, 1, False)

    def test_me_and_you_may_be_among_its_lands(self):
        view = View([("strike", 0, 1)], [], [], [])
        self.check(("some", 1, ("did", "strike", "who", "you")), view, 0, 1, True)
        self.check(("some", 2, ("did", "strike", "me", "who")), view, 0, 1, True)
        self.check(("some", 3, ("among", "who", 1)), EMPTY, 0, 1, True)
        self.check(("some", 3, ("among", "who", 2)), EMPTY, 0, 1, True)
        self.check(("some", 3, ("among", "who", 4)), EMPTY, 0, 1, False)

    def test_me_and_you_stay_within_a_some(self):
        for me, you in itertools.permutations(range(4), 2):
            both = ("and", ("among", "me", 1 << me), ("among", "you", 1 << you))
            self.check(("some", 63, both), EMPTY, me, you, True)
            self.check(("some", 63, ("among", "me", 1 << you)), EMPTY, me, you, False)

    def test_one_land_for_the_whole_of_its_condition(self):
        view = View([("warn", 2, 0), ("call", 3, 0)], [], [], [])
        both = ("and", ("did", "warn", "who", 0), ("did", "call", "who", 0))
        apart = ("and", ("some", 63, ("did", "warn", "who", 0)), ("some", 63, ("did", "call", "who", 0)))
        self.check(("some", 63, both), view, 0, 1, False)
        self.check(apart, view, 0, 1, True)

    def test_who_is_the_innermost_ones_land(self):
        for outer, inner in itertools.product(range(8), repeat=2):
            condition = ("some", outer, ("some", inner, ("among", "who", 4)))
            self.check(condition, EMPTY, 0, 1, outer != 0 and inner & 4 != 0)

    def test_behind_an_inner_some_who_is_the_outer_ones_again(self):
        inner = ("some", 2, ("among", "who", 2))
        self.check(("some", 4, ("and", inner, ("among", "who", 4))), EMPTY, 0, 1, True)
        self.check(("some", 4, ("and", ("among", "who", 4), inner)), EMPTY, 0, 1, True)
        self.check(("some", 4, ("and", inner, ("among", "who", 2))), EMPTY, 0, 1, False)
        failing = ("not", ("some", 2, ("among", "who", 4)))
        self.check(("some", 4, ("and", failing, ("among", "who", 4))), EMPTY, 0, 1, True)

    def test_the_example_of_a_world(self):
        condition = ("some", 15, ("and", ("did", "strike", "who", "you"), ("not", ("owes", "shun", "me", "who"))))
        row = [("strike", 3, 2)]
        self.check(condition, View(row, [], [], []), 0, 2, True)
        self.check(condition, View(row, [("shun", 0, 3)], [], []), 0, 2, True)
        self.check(condition, View(row, [], [("shun", 0, 3)], []), 0, 2, False)
        self.check(condition, View(row, [], [("shun", 1, 3)], []), 0, 2, True)
        self.check(condition, View([], [], [], []), 0, 2, False)


# [7] written anew: a not exchanges the two lists for what stands within it.
def spelled_out(condition, row, plain, turned, broken, lands):
    word = condition[0]
    if word == "yes":
        return True
    if word == "broken":
        return condition[1] in broken
    if word == "not":
        return not spelled_out(condition[1], row, turned, plain, broken, lands)
    if word in ("and", "or"):
        parts = [spelled_out(part, row, plain, turned, broken, lands) for part in condition[1:]]
        return all(parts) if word == "and" else any(parts)
    if word == "some":
        tried = [dict(lands, who=k) for k in range(6) if condition[1] & (1 << k)]
        return any([spelled_out(condition[2], row, plain, turned, broken, each) for each in tried])
    if word == "among":
        return condition[2] & (1 << lands.get(condition[1], condition[1])) != 0
    x, y = [lands.get(part, part) for part in condition[-2:]]
    if word == "owes":
        return (condition[1], x, y) in plain
    # The rows it is used for have one strike and no peace.
    return ("strike", x, y) in row


class ManyConditions(Asking):
    SMALL = [
        ("yes",), ("did", "strike", "who", "you"), ("began", "me", "who"), ("owes", "help", "who", "me"),
        ("owes", "help", "me", "you"), ("owes", "shun", 2, "who"), ("broken", 1), ("among", "who", 5),
    ]
    VIEWS = (
        ([], [], [], []),
        ([("strike", 0, 2)], [("help", 2, 0)], [("help", 0, 1)], [1]),
        ([("strike", 2, 1)], [("help", 0, 1), ("shun", 2, 1)], [("help", 2, 0)], [0]),
        ([], [("shun", 2, 0)], [("shun", 2, 0), ("help", 1, 0), ("help", 0, 1)], [1, 0]),
    )

    def conditions(self):
        for c, d in itertools.product(self.SMALL, repeat=2):
            for join in ("and", "or"):
                yield (join, c, ("not", d))
                yield ("not", (join, ("not", c), d))
                yield (join, c, ("some", 6, ("not", d)))
                yield ("not", (join, ("some", 3, c), d))

    def test_each_is_as_spelled_out(self):
        for inner in self.conditions():
            condition = ("some", 7, inner)
            clause = clause_of(condition)
            for row, plain, turned, broken in self.VIEWS:
                view = View(row, plain, turned, broken)
                for me, you in ((0, 1), (1, 0), (2, 1)):
                    asked = spelled_out(condition, row, plain, turned, broken, {"me": me, "you": you})
                    self.assertIs(clause.holds(view, me, you), asked, condition)
                    self.assertIs(holds(condition, view, me, you), asked, condition)


class NothingIsShared(Asking):
    def test_lists_handed_in_changed_behind(self):
        row, plain, turned, broken = [("strike", 0, 1)], [("help", 0, 1)], [("shun", 0, 1)], [3]
        view = View(row, plain, turned, broken)
        conditions = (
            ("did", "strike", 0, 1), ("began", 0, 1), ("owes", "help", 0, 1),
            ("not", ("not", ("owes", "help", 0, 1))), ("broken", 3),
        )
        for condition in conditions:
            self.check(condition, view, 0, 1, True)
        self.check(("not", ("owes", "shun", 0, 1)), view, 0, 1, False)
        for handed in (row, plain, turned, broken):
            handed.clear()
        for condition in conditions:
            self.check(condition, view, 0, 1, True)
        self.check(("not", ("owes", "shun", 0, 1)), view, 0, 1, False)
        row += [("peace", 0, 1), ("warn", 1, 0)]
        plain.append(("spare", 1, 0))
        turned.append(("help", 1, 0))
        broken.append(4)
        for condition in (("did", "warn", 1, 0), ("owes", "spare", 1, 0), ("broken", 4)):
            self.check(condition, view, 0, 1, False)
        self.check(("not", ("owes", "help", 1, 0)), view, 0, 1, True)

    def test_one_list_handed_in_at_two_places(self):
        duties = [("help", 0, 1)]
        view = View([], duties, duties, [])
        duties.clear()
        self.check(("owes", "help", 0, 1), view, 0, 1, True)
        self.check(("not", ("owes", "help", 0, 1)), view, 0, 1, False)

    def test_lists_handed_in_are_not_changed(self):
        handed = ([("strike", 0, 1), ("peace", 0, 1)], [("help", 0, 1)] * 2, [("shun", 0, 1)], [3, 1, 3])
        kept = [list(each) for each in handed]
        view = View(*handed)
        for condition, kind, made in EACH_WORD:
            holds(condition, view, 0, 1)
            made.holds(view, 1, 0)
        holds(DEEP, view, 0, 1)
        self.assertEqual(list(handed), kept)

    def test_views_do_not_share(self):
        one = View([("strike", 0, 1)], [], [], [])
        View([("peace", 0, 1)], [], [], [])
        self.check(("did", "strike", 0, 1), one, 0, 1, True)

    def test_what_told_tells_is_told_again(self):
        clause = clause_of(DEEP)
        first = clause.told()
        changed = list(first)
        changed[1] = 0
        clause.holds(EMPTY, 0, 1)
        self.assertEqual(clause.told(), DEEP)
        self.assertEqual(first, DEEP)

    def test_an_object_told_and_changed_changes_no_other(self):
        condition = ("did", "strike", 0, 1)
        view = View([("strike", 0, 1)], [], [], [])
        clause = clause_of(condition)
        vars(clause).clear()
        self.assertEqual(clause_of(condition).told(), condition)
        self.check(condition, view, 0, 1, True)

    def test_the_order_of_questions_does_not_matter(self):
        views = [View(*lists) for lists in ManyConditions.VIEWS]
        clause = clause_of(DEEP)
        first = [clause.holds(view, 0, 1) for view in views]
        again = [clause.holds(view, 0, 1) for view in reversed(views)]
        self.assertEqual(first, again[::-1])

    def test_the_module_keeps_nothing(self):
        kept = [name for name, value in vars(clauses).items()
                if isinstance(value, (list, dict, set)) and not name.startswith("__")]
        self.assertEqual(kept, [])


if __name__ == "__main__":
    unittest.main()
