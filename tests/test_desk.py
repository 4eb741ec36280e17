import itertools
import random
import unittest

from oathfall.deeds import WORDS
from oathfall.desk import Desk
from oathfall.errors import NoDeed, NoLand, NoOath, NoRow, NoText, OathError, TooMany
from oathfall.falls import fall, follows
from oathfall.faults import excused, faults
from oathfall.keeping import keep
from oathfall.known import idle, known, leaning, taken_out
from oathfall.oaths import DUTIES, duties, world_of
from oathfall.reading import reading
from oathfall.roads import is_road
from oathfall.texts import read_row, read_world, show_row, show_world
from oathfall.times import breaches, broken, read, waits

from samples import BACK, HELP, Story, histories, look, oath, read_slowly, turned

# Land a helps b and c where c has struck b; c spares b; a shuns c where it has struck b; b helps c where
# the first was broken, which c does not know; a and b spare each other where the other one does not.
TEXT = (
    "lands 3\n"
    "help a bc 2 0 - abc did strike c b\n"
    "spare c b 1 0 - abc yes\n"
    "shun a c 1 0 - ab did strike c b\n"
    "help b c 3 0 - ab broken 0\n"
    "spare ab ab 1 0 - a not owes spare you me"
)
THINGS = (None, 0, 1, True, b"row", ["row"], ("row",), {}, ("strike", 0, 1), [])
# One row of each kind that asks alone.
ASKS = ("row", "world", "read help a b", "owes a", "road help a b", "waits a", "keep a", "failed", "fall",
        "follows warn a b", "told c help a b", "idle 0")


def desk_of(world, row=()):
    desk = Desk(show_world(world))
    for deed in row:
        desk.say("do " + show_row([deed]))
    return desk


def letter(land):
    return "abcdef"[land]


def duty_text(duty):
    return f"{duty[0]} {letter(duty[1])} {letter(duty[2])}"


class Desks(unittest.TestCase):
    def desk(self, *rows, text=TEXT):
        desk = Desk(text)
        for row in rows:
            self.assertEqual(desk.say(row), "ok")
        return desk

    def refused(self, desk, *rows, with_one=NoRow):
        for row in rows:
            with self.subTest(row):
                before = self.state(desk)
                with self.assertRaises(with_one) as caught:
                    desk.say(row)
                self.assertIs(type(caught.exception), with_one)
                self.assertEqual(self.state(desk), before)

    def state(self, desk):
        return desk.say("row"), desk.say("world"), desk.say("failed")


class Making(Desks):
    def test_it_begins_without_deeds(self):
        self.assertEqual(Desk(TEXT).say("row"), "")
        self.assertEqual(Desk("lands 1").say("row"), "")

    def test_it_is_refused_as_the_text_is(self):
        for thing in THINGS + ("", "lands", "lands 2\n", "lands 2\nhelp a b 1 0 - ab", "lands 2\n\n"):
            with self.assertRaises(NoText):
                Desk(thing)
        for n in (0, 7):
            with self.assertRaises(NoLand):
                Desk(f"lands {n}")
        with self.assertRaises(TooMany):
            Desk("lands 2" + "\nhelp a b 1 0 - ab yes" * 9)
        with self.assertRaises(NoOath) as caught:
            Desk("lands 2\nhelp a b 1 0 - ab yes\nhelp a c 1 0 - ab yes")
        self.assertEqual(caught.exception.number, 1)

    def test_two_desks_do_not_share_their_rows(self):
        one, other = self.desk(), self.desk()
        one.say("do warn a b")
        self.assertEqual((one.say("row"), other.say("row")), ("warn a b", ""))
        self.assertEqual(self.desk().say("row"), "")


class DoAndUndo(Desks):
    def test_each_word_and_two_lands(self):
        for word, (a, b) in itertools.product(WORDS, itertools.permutations("abc", 2)):
            desk = self.desk(f"do {word} {a} {b}")
            self.assertEqual(desk.say("row"), f"{word} {a} {b}")

    def test_one_behind_another(self):
        desk = self.desk("do strike c b", "do help a b", "do peace b c")
        self.assertEqual(desk.say("row"), "strike c b; help a b; peace b c")
        for row in ("strike c b; help a b", "strike c b", ""):
            self.assertEqual(desk.say("undo"), "ok")
            self.assertEqual(desk.say("row"), row)

    def test_the_last_is_taken_away_and_another_put_behind(self):
        desk = self.desk("do strike c b", "do help a b", "undo", "do warn a c")
        self.assertEqual(desk.say("row"), "strike c b; warn a c")

    def test_undo_where_there_is_none(self):
        desk = self.desk()
        self.refused(desk, "undo", with_one=NoDeed)
        self.refused(desk, "undo", with_one=NoDeed)
        desk.say("do warn a b")
        desk.say("undo")
        self.refused(desk, "undo", with_one=NoDeed)

    def test_a_seventeenth_deed(self):
        desk = self.desk(*["do warn a b"] * 16)
        self.refused(desk, "do warn a b", "do peace c a", "do strike c b", with_one=TooMany)
        self.assertEqual(desk.say("row"), "; ".join(["warn a b"] * 16))
        desk.say("undo")
        self.assertEqual(desk.say("do call c a"), "ok")
        self.assertEqual(desk.say("row"), "; ".join(["warn a b"] * 15 + ["call c a"]))

    def test_no_row_goes_ahead_of_too_many_and_no_deed(self):
        desk = self.desk(*["do warn a b"] * 16)
        self.refused(desk, "do warn a a", "do hit a b", "do warn a d", "do warn a", "do", "follows hit a b",
                     "follows warn a a", "follows warn a")
        self.refused(self.desk(), "undo undo", "undo ", "undo 1", " undo")


class Answers(Desks):
    def told(self, desk, *pairs):
        for row, answer in pairs:
            with self.subTest(row):
                self.assertEqual(desk.say(row), answer)

    def test_row_and_world(self):
        desk = self.desk("do strike c b", "do warn a b")
        self.told(desk, ("row", "strike c b; warn a b"), ("world", TEXT))
        for text in ("lands 1", "lands 6", "lands 4\nhelp ab c 2 0 17 - some abcd and did strike who you yes"):
            self.told(Desk(text), ("world", text), ("row", ""))

    def test_read(self):
        self.told(self.desk(), ("read help a b", "none"), ("read spare c b", "sure"), ("read spare a b", "open"),
                  ("read spare b a", "open"), ("read spare a c", "none"))
        self.told(self.desk("do strike c b"), ("read help a b", "sure"), ("read help a c", "sure"),
                  ("read shun a c", "sure"), ("read shun a b", "none"), ("read help b c", "none"))

    def test_owes(self):
        self.told(self.desk(), ("owes a", "none"), ("owes b", "none"), ("owes c", "spare c b"))
        desk = self.desk("do strike c b")
        self.told(desk, ("owes a", "help a b; help a c; shun a c"), ("owes b", "none"), ("owes c", "spare c b"))
        desk = Desk("lands 3\nspare a bc 1 0 - - yes\nhelp a bc 1 0 - - yes\nshun a bc 1 0 - - yes")
        self.told(desk, ("owes a", "help a b; help a c; shun a b; shun a c; spare a b; spare a c"))

    def test_road(self):
        self.told(self.desk(), ("road help a b", "none"), ("road spare a b", "none"), ("road spare c b", "spare c b by 1"))
        desk = Desk("lands 2\nshun a b 1 0 - - owes help a b\nhelp a b 1 0 - - yes")
        self.told(desk, ("road help a b", "help a b by 1"), ("road shun a b", "help a b by 1; shun a b by 0"),
                  ("road shun b a", "none"))

    def test_waits(self):
        self.told(self.desk(), ("waits a", "none"), ("waits b", "none"), ("waits c", "none"))
        self.told(self.desk("do strike c b"), ("waits a", "b by 0 due 3; c by 0 due 3"), ("waits c", "none"))
        self.told(self.desk("do strike c b", "do help a c"), ("waits a", "b by 0 due 3"))
        self.told(self.desk("do strike c b", "do help a b", "do warn a b", "do warn a b"), ("waits b", "c by 3 due 7"))

    def test_what_waits_is_sorted_by_due_oath_and_ward(self):
        desk = Desk("lands 4\nhelp a d 3 0 - - yes\nhelp a bc 2 0 - - yes\nhelp ab c 3 0 - - yes\nhelp a b 1 0 - - yes\n"
                    "help a d 2 0 - - yes\nshun a c 1 0 - - yes")
        self.told(desk, ("waits a", "b by 3 due 1; b by 1 due 2; c by 1 due 2; d by 4 due 2; d by 0 due 3; c by 2 due 3"),
                  ("waits b", "c by 2 due 3"), ("waits d", "none"))

    def test_keep(self):
        self.told(self.desk(), ("keep a", "way"), ("keep b", "way"), ("keep c", "way"))
        self.told(self.desk("do strike c b"), ("keep a", "clash help 0 c shun 2 c"), ("keep b", "way"))
        desk = Desk("lands 4\nhelp a d 2 0 - - yes\nhelp a b 3 0 - - yes\nhelp a c 1 0 - - yes")
        self.told(desk, ("keep a", "way c d b"), ("keep b", "way"))
        desk.say("do warn a b")
        self.told(desk, ("keep a", "way d b"))
        desk = Desk("lands 3\nhelp a c 1 0 - - yes\nhelp a b 1 0 - - yes")
        self.told(desk, ("keep a", "clash help 0 c help 1 b"))

    def test_failed(self):
        self.told(self.desk(), ("failed", "none"))
        self.told(self.desk("do strike c b"), ("failed", "1 c b by 1 fault"))
        desk = self.desk("do strike c b", "do warn a c", "do warn a c")
        self.told(desk, ("failed", "1 c b by 1 fault; 3 a b by 0 fault; 3 a c by 0 excused"))
        desk = self.desk("do strike c b", "do help a c", "do strike c b")
        self.told(desk, ("failed", "1 c b by 1 fault; 2 a c by 2 fault; 3 a b by 0 fault; 3 c b by 1 fault"))

    def test_fall(self):
        self.told(self.desk(), ("fall", "none"))
        self.told(self.desk("do strike c b"), ("fall", "help a b"))
        desk = Desk("lands 3\nhelp a b 2 0 - - yes\nhelp b ac 1 0 - - yes")
        self.told(desk, ("fall", "help b a; help a b"))

    def test_follows(self):
        desk = self.desk()
        self.told(desk, ("follows strike c b", "strike c b; help a b"), ("follows warn a b", "warn a b"), ("row", ""))
        self.told(self.desk("do strike c b"), ("follows peace b c", "peace b c"), ("follows warn a b", "warn a b; help a b"),
                  ("row", "strike c b"))

    def test_told(self):
        desk = self.desk("do strike c b")
        self.told(desk, ("told a shun a c", "sure"), ("told b shun a c", "sure"), ("told c shun a c", "none"),
                  ("told c help a b", "sure"), ("told a spare a b", "open"), ("told b spare a b", "none"))

    def test_told_by_the_breaches_of_the_oaths_it_knows(self):
        desk = Desk("lands 2\nhelp a b 1 0 - a yes\nshun b a 1 0 - ab broken 0\nspare b a 1 0 - ab not broken 0")
        self.told(desk, ("told a spare b a", "sure"), ("told b spare b a", "sure"), ("told b help a b", "none"))
        desk.say("do warn a b")
        desk.say("do warn a b")
        self.told(desk, ("told a shun b a", "sure"), ("told a spare b a", "none"), ("told b shun b a", "none"),
                  ("told b spare b a", "sure"), ("read shun b a", "sure"))

    def test_idle(self):
        self.told(self.desk(), ("idle 0", "idle"), ("idle 1", "needed 0 spare c b"), ("idle 2", "idle"), ("idle 3", "idle"),
                  ("idle 4", "needed 0 spare a b"))
        desk = self.desk("do warn a b", "do strike c b", "do warn a b", "do warn a b", "do warn a b")
        self.told(desk, ("idle 0", "needed 2 help a b"), ("idle 1", "needed 0 spare c b"), ("idle 2", "needed 2 shun a c"),
                  ("idle 3", "needed 5 help b c"))

    def test_idle_looks_at_the_row_without_deeds_and_at_the_whole_row(self):
        desk = Desk("lands 2\nhelp a b 1 0 1 - yes\nshun a b 1 16 - - yes")
        self.told(desk, ("idle 0", "needed 0 help a b"), ("idle 1", "idle"))
        for k in range(16):
            self.told(desk, ("idle 0", "needed 0 help a b"), ("idle 1", "idle"), ("do call b a", "ok"))
        self.told(desk, ("idle 0", "needed 0 help a b"), ("idle 1", "needed 16 shun a b"))

    def test_asking_changes_nothing(self):
        desk = self.desk("do strike c b", "do warn a c", "do warn a c", "do warn a c")
        first = [desk.say(row) for row in ASKS]
        self.assertEqual([desk.say(row) for row in reversed(ASKS)], first[::-1])
        self.assertEqual([desk.say(row) for row in ASKS], first)

    def test_without_oaths_and_with_one_land(self):
        desk = Desk("lands 1")
        self.told(desk, ("row", ""), ("world", "lands 1"), ("owes a", "none"), ("waits a", "none"), ("keep a", "way"),
                  ("failed", "none"), ("fall", "none"))
        self.refused(desk, "read help a a", "read help a b", "do warn a a", "do warn a b", "idle 0", "owes b", "told a help a a")
        desk = Desk("lands 6")
        self.told(desk, ("read help e f", "none"), ("told f help e f", "none"), ("do strike f a", "ok"), ("row", "strike f a"),
                  ("follows help a f", "help a f"), ("road spare a b", "none"))
        self.refused(desk, "owes g", "idle 0")

    def test_six_lands_and_eight_oaths(self):
        line = "help abcdef abcdef 9 0 - abcdef some abcdef and did strike who you not owes shun me who"
        desk = Desk("\n".join(["lands 6", *[line] * 7, "shun f a 1 0 - abcdef yes"]))
        self.told(desk, ("do strike f e", "ok"), ("owes a", "help a e"), ("owes e", "none"), ("idle 7", "needed 0 shun f a"),
                  ("idle 0", "idle"), ("waits a", "; ".join([f"e by {j} due 10" for j in range(7)])), ("keep a", "way e"),
                  ("fall", "help a e; help b e; help c e; help d e; help f e"), ("failed", "none"),
                  ("do strike a e", "ok"), ("do strike e a", "ok"), ("owes f", "help f a; help f e; shun f a"),
                  ("keep f", "clash help 0 a shun 7 a"), ("told f shun f a", "sure"))


class NoRows(Desks):
    def test_no_text(self):
        self.refused(self.desk("do warn a b"), *THINGS)

    def test_another_first_word(self):
        self.refused(self.desk("do warn a b"), "", " ", "rows", "Row", "ROW", "ask a", "help a b", "strike a b", "ok", "none", "a",
                     "breaches", "say row", "quit", "drawn", "draws", "leans 0 1", "known a", "-", "0", "\n", ";", "do; row")

    def test_too_few_and_too_many_words(self):
        desk = self.desk("do warn a b")
        for row in ASKS + ("do warn a b", "undo"):
            words = row.split(" ")
            for more in ("a", "b", "0", "help", "", "row"):
                self.refused(desk, row + " " + more)
            for count in range(1, len(words)):
                self.refused(desk, " ".join(words[:count]))
                self.refused(desk, " ".join(words[:1] + words[count + 1:]) if count < len(words) - 1 else words[0])

    def test_blanks_too_many(self):
        desk = self.desk("do warn a b")
        for row in ASKS + ("do warn a b", "undo"):
            self.refused(desk, " " + row, row + " ", row + "\n", "\n" + row, row + ";", row.upper())
            if " " in row:
                self.refused(desk, row.replace(" ", "  ", 1), row.replace(" ", "\t"), row.replace(" ", "\n"),
                             "  ".join(row.rsplit(" ", 1)), row.replace(" ", ""))

    def test_a_word_for_a_deed_that_is_none(self):
        for word in ("spare", "shun", "hit", "Help", "", "a", "0", "strikes", "yes"):
            self.refused(self.desk(), f"do {word} a b", f"follows {word} a b")

    def test_a_word_for_a_duty_that_is_none(self):
        for word in ("strike", "pass", "warn", "call", "refuse", "peace", "Help", "", "a", "0", "aid"):
            self.refused(self.desk(), f"read {word} a b", f"road {word} a b", f"told a {word} a b")

    def test_a_land_that_is_none(self):
        desk = self.desk("do warn a b")
        for land in ("d", "f", "g", "A", "0", "1", "", "ab", "abc", "-", "me", "you", "who", "aa"):
            self.refused(desk, f"do warn {land} b", f"do warn b {land}", f"follows warn {land} b", f"follows warn b {land}",
                         f"read help {land} b", f"read help b {land}", f"road help {land} b", f"road help b {land}",
                         f"owes {land}", f"waits {land}", f"keep {land}", f"told {land} help a b", f"told a help {land} b",
                         f"told a help b {land}")
        for n in range(2, 6):
            desk = Desk(f"lands {n}")
            beyond, last = letter(n), letter(n - 1)
            self.refused(desk, f"owes {beyond}", f"do warn a {beyond}", f"told {beyond} help a b")
            self.assertEqual([desk.say(f"owes {last}"), desk.say(f"told {last} help a {last}")], ["none", "none"])

    def test_the_same_land_twice(self):
        for land in "abc":
            self.refused(self.desk(), f"do warn {land} {land}", f"do peace {land} {land}", f"follows warn {land} {land}",
                         f"read help {land} {land}", f"road help {land} {land}", f"told a help {land} {land}",
                         f"told {land} help {land} {land}")

    def test_the_land_that_is_told_may_be_one_of_the_two(self):
        desk = self.desk()
        for land in "abc":
            self.assertEqual(desk.say(f"told {land} spare c b"), "sure")

    def test_an_oath_that_is_none(self):
        desk = self.desk("do warn a b")
        for j in ("5", "8", "9", "10", "99", "-1", "00", "01", "+0", "0.", "a", "", "-", "0x0", "1_0", "999999999999999999"):
            self.refused(desk, f"idle {j}")
        for many in range(9):
            desk = Desk("\n".join(["lands 2"] + ["help a b 1 0 - ab yes"] * many))
            for j in range(10):
                if j < many:
                    self.assertEqual(desk.say(f"idle {j}"), "idle" if many > 1 else "needed 0 help a b")
                else:
                    self.refused(desk, f"idle {j}")


class TooManyDeeds(Desks):
    def test_a_fall_beyond_sixteen_deeds(self):
        desk = self.desk(*["do warn a b"] * 15, text="lands 3\nhelp a bc 9 15 - abc yes")
        self.refused(desk, "fall", "follows warn a b", with_one=TooMany)
        self.assertEqual(desk.say("undo"), "ok")
        self.assertEqual(desk.say("fall"), "none")
        self.refused(desk, "follows warn a b", with_one=TooMany)
        self.assertEqual(desk.say("row"), "; ".join(["warn a b"] * 14))

    def test_follows_behind_sixteen_deeds(self):
        desk = self.desk(*["do warn a b"] * 16)
        self.assertEqual(desk.say("fall"), "none")
        self.refused(desk, "follows warn a b", "follows strike c b", with_one=TooMany)
        desk.say("undo")
        self.assertEqual(desk.say("follows warn a b"), "warn a b")
        self.refused(desk, "follows strike c b", with_one=TooMany)

    def test_all_else_is_answered_behind_sixteen_deeds(self):
        desk = self.desk("do strike c b", *["do warn a b"] * 15)
        for row in ASKS:
            if not row.startswith("follows"):
                self.assertIsInstance(desk.say(row), str)


class AsTheFunctionsTell(Desks):
    def answered(self, ask):
        try:
            return ask()
        except OathError as error:
            return type(error)

    def listed(self, texts):
        return "; ".join(texts) or "none"

    def each(self, seed, count, most_deeds=6):
        for world, row in histories(seed, count, (1, 2, 2, 3, 3, 4), most_deeds=most_deeds):
            yield world, row, desk_of(world, row)

    def test_row_and_world(self):
        for world, row, desk in self.each(850, 60, 16):
            self.assertEqual(read_row(world, desk.say("row")), row)
            self.assertEqual(read_world(desk.say("world")), world)
            self.assertEqual((desk.say("row"), desk.say("world")), (show_row(row), show_world(world)))

    def test_read_owes_and_road(self):
        for world, row, desk in self.each(851, 60):
            sure, still_open = read(world, row)
            oaths = broken(world, row)
            for duty in duties(world[0]):
                kind = "sure" if duty in sure else "open" if duty in still_open else "none"
                self.assertEqual(desk.say("read " + duty_text(duty)), kind)
                steps = desk.say("road " + duty_text(duty))
                if kind != "sure":
                    self.assertEqual(steps, "none")
                    continue
                told = [step.split(" by ") for step in steps.split("; ")]
                told = [(self.duty_told(one), int(j)) for one, j in told]
                self.assertTrue(is_road(world, row, oaths, told))
                self.assertEqual(told[-1][0], duty)
                self.assertEqual(len(set([one for one, j in told])), len(told))
            for a in range(world[0]):
                told = self.listed([duty_text(duty) for duty in sure if duty[1] == a])
                self.assertEqual(desk.say(f"owes {letter(a)}"), told)

    def duty_told(self, one):
        word, a, b = one.split(" ")
        return word, "abcdef".index(a), "abcdef".index(b)

    def test_read_as_spelled_out(self):
        for world, row, desk in self.each(852, 60, 5):
            sure, both = read_slowly(world, row, Story(world, row).broken[-1])
            for duty in duties(world[0]):
                kind = "sure" if duty in sure else "open" if duty in both else "none"
                self.assertEqual(desk.say("read " + duty_text(duty)), kind)

    def test_waits_and_keep(self):
        for world, row, desk in self.each(853, 150):
            for a in range(world[0]):
                told = sorted([(due, j, b) for j, maker, b, since, due in waits(world, row) if maker == a])
                told = self.listed([f"{letter(b)} by {j} due {due}" for due, j, b in told])
                self.assertEqual(desk.say(f"waits {letter(a)}"), told)
                word, parts = keep(world, row, a)
                if word == "way":
                    words = [letter(b) for deed, maker, b in parts]
                else:
                    words = [f"{part[0]} {part[1]} {letter(part[2])}" for part in parts]
                self.assertEqual(desk.say(f"keep {letter(a)}"), " ".join([word, *words]))

    def test_failed(self):
        for world, row, desk in self.each(854, 150, 8):
            at_fault = [told[:5] for told in faults(world, row)]
            free = [told[:5] for told in excused(world, row)]
            told = []
            for breach in breaches(world, row):
                self.assertNotEqual(breach in at_fault, breach in free)
                turn, j, a, b, since = breach
                end = "fault" if breach in at_fault else "excused"
                told.append(f"{turn} {letter(a)} {letter(b)} by {j} {end}")
            self.assertEqual(desk.say("failed"), self.listed(told))

    def test_fall_and_follows(self):
        refused = 0
        for world, row, desk in self.each(855, 150, 16):
            told = self.answered(lambda: show_row(fall(world, row)) or "none")
            self.assertEqual(self.answered(lambda: desk.say("fall")), told)
            for deed in (("strike", 0, 1), ("peace", 1, 0), ("help", 0, 1))[:3 if world[0] > 1 else 0]:
                told = self.answered(lambda: show_row(follows(world, row, deed)))
                refused += told is TooMany
                self.assertEqual(self.answered(lambda: desk.say("follows " + show_row([deed]))), told)
            self.assertEqual(desk.say("row"), show_row(row))
        self.assertGreater(refused, 5)

    def test_told_as_read_in_the_world_that_the_land_knows(self):
        unlike = 0
        for world, row, desk in self.each(856, 60):
            for c in range(world[0]):
                other = desk_of(known(world, c), row)
                for duty in duties(world[0]):
                    told = desk.say(f"told {letter(c)} {duty_text(duty)}")
                    self.assertEqual(told, other.say("read " + duty_text(duty)))
                    unlike += told != desk.say("read " + duty_text(duty))
        self.assertGreater(unlike, 100)

    def test_a_land_that_knows_all_is_told_as_is_read_and_one_that_knows_none_none(self):
        for world, row in histories(857, 60, most_deeds=6):
            for knowers, c in itertools.product((0, (1 << world[0]) - 1), range(world[0])):
                other = world_of(world[0], [one[:7] + (knowers,) for one in world[1]])
                desk = desk_of(other, row)
                for duty in duties(world[0]):
                    told = desk.say("read " + duty_text(duty)) if knowers else "none"
                    self.assertEqual(desk.say(f"told {letter(c)} {duty_text(duty)}"), told)

    def test_idle(self):
        needed = 0
        for world, row, desk in self.each(858, 100):
            for j in range(len(world[1])):
                told = idle(world, j, [row[:k] for k in range(len(row) + 1)])
                words = "idle" if told is None else f"needed {told[0]} {duty_text(told[1])}"
                self.assertEqual(desk.say(f"idle {j}"), words)
                needed += told is not None and told[0] > 0
        self.assertGreater(needed, 20)

    def test_what_does_not_lean_on_an_oath_is_read_alike_at_a_desk_without_it(self):
        for world, row, desk in self.each(859, 40):
            for j in range(len(world[1])):
                other = desk_of(taken_out(world, j), row)
                for duty in set(duties(world[0])) - set(leaning(world, j)):
                    self.assertEqual(other.say("read " + duty_text(duty)), desk.say("read " + duty_text(duty)))

    def test_it_goes_on_as_a_new_one_would(self):
        draw = random.Random(860)
        for world, row in histories(860, 30, (2, 3), most_deeds=16):
            desk, done = desk_of(world), []
            for deed in row:
                if done and draw.random() < 0.3:
                    self.assertEqual(desk.say("undo"), "ok")
                    done.pop()
                self.assertEqual(desk.say("do " + show_row([deed])), "ok")
                done.append(deed)
                if draw.random() < 0.4:
                    self.assertEqual(self.state(desk), self.state(desk_of(world, done)))


class TheWhole(Desks):
    """What the document promises over all of it, asked of desks alone."""

    def test_a_way_is_gone_and_nothing_that_waits_now_fails(self):
        gone = 0
        for world, row in histories(861, 150, (2, 3, 4), most_deeds=6):
            for a in range(world[0]):
                desk = desk_of(world, row)
                word, *wards = desk.say(f"keep {letter(a)}").split(" ")
                waiting = [one for one in waits(world, row) if one[1] == a]
                if word != "way" or not wards:
                    continue
                for ward in wards:
                    desk.say(f"do help {letter(a)} {ward}")
                failed = breaches(world, read_row(world, desk.say("row")))
                for j, maker, b, since, due in waiting:
                    self.assertNotIn((j, maker, b, since), [(one[1], *one[2:]) for one in failed])
                gone += 1
        self.assertGreater(gone, 50)

    def test_what_follows_is_what_comes_when_it_is_done(self):
        for world, row in histories(862, 100, (2, 3), most_deeds=5):
            desk = desk_of(world, row)
            for word in ("strike", "help", "peace"):
                try:
                    told = desk.say(f"follows {word} a b")
                except TooMany:
                    continue
                desk.say(f"do {word} a b")
                behind = desk.say("fall")
                self.assertEqual(told, f"{word} a b" + ("" if behind == "none" else "; " + behind))
                desk.say("undo")

    def test_where_a_fall_has_ended_nothing_is_left_but_what_is_shunned(self):
        for world, row in histories(863, 100, (2, 3), most_deeds=5):
            desk = desk_of(world, row)
            try:
                told = desk.say("fall")
            except TooMany:
                continue
            for deed in told.split("; ") if told != "none" else []:
                desk.say("do " + deed)
            self.assertEqual(desk.say("fall"), "none")
            for a in range(world[0]):
                waiting = desk.say(f"waits {letter(a)}")
                for one in waiting.split("; ") if waiting != "none" else []:
                    self.assertEqual(desk.say(f"read shun {letter(a)} {one[0]}"), "sure")

    def test_a_duty_is_sure_just_where_it_has_a_road(self):
        for world, row in histories(864, 60, (2, 3), most_deeds=4):
            desk = desk_of(world, row)
            for duty in duties(world[0]):
                one = duty_text(duty)
                sure = desk.say("read " + one) == "sure"
                self.assertEqual(desk.say("road " + one) != "none", sure)
                self.assertEqual(one in desk.say(f"owes {letter(duty[1])}").split("; "), sure)

    def test_lands_exchanged_exchange_all(self):
        for world, row in histories(865, 20, (2, 3), most_deeds=6):
            for lands in itertools.permutations(range(world[0])):
                lands = "".join([letter(land) for land in lands])
                desk = desk_of(world, row)
                other = Desk(self.exchanged_text(desk.say("world"), lands))
                for deed in row:
                    other.say(f"do {deed[0]} {lands[deed[1]]} {lands[deed[2]]}")
                for duty, a, b in duties(world[0]):
                    one, two = f"{duty} {letter(a)} {letter(b)}", f"{duty} {lands[a]} {lands[b]}"
                    self.assertEqual(other.say("read " + two), desk.say("read " + one))
                    for c in range(world[0]):
                        self.assertEqual(other.say(f"told {lands[c]} {two}"), desk.say(f"told {letter(c)} {one}"))
                for a in range(world[0]):
                    self.assertEqual(other.say(f"keep {lands[a]}").split(" ")[0],
                                     desk.say(f"keep {letter(a)}").split(" ")[0])

    # Letters stand alone or beside letters alone; a word of one letter or of rising ones is no other word.
    def exchanged_text(self, text, lands):
        lines = []
        for line in text.split("\n"):
            words = []
            for word in line.split(" "):
                if set(word) <= set("abc"):
                    word = "".join(sorted([lands["abc".index(sign)] for sign in word]))
                words.append(word)
            lines.append(" ".join(words))
        return "\n".join(lines)

    def test_where_there_is_no_ring_none_is_open(self):
        desk = desk_of(world_of(2, [oath(condition=turned("help", "you", "me")), oath("help", 2, 1, turned("help", 0, 1))]))
        self.assertEqual((desk.say("read help a b"), desk.say("read help b a")), ("open", "open"))
        desk = desk_of(world_of(2, [oath(condition=turned("help", "you", "me")), oath("help", 2, 1)]))
        self.assertEqual((desk.say("read help a b"), desk.say("read help b a")), ("none", "sure"))

    def test_every_duty_of_every_kind_is_read(self):
        world = world_of(2, [oath(duty, 3, 3, look(duty)) for duty in DUTIES] + [oath()])
        desk = desk_of(world)
        sure, still_open = reading(world, [], [])
        self.assertEqual((sure, still_open), ([HELP], []))
        self.assertEqual([desk.say("read " + duty_text(duty)) for duty in (HELP, BACK)], ["sure", "none"])


if __name__ == "__main__":
    unittest.main()
