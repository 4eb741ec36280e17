import itertools
import random
import re
import unittest

from oathfall.errors import NoLand, NoOath, NoText, OathError, TooMany
from oathfall.oaths import DUTIES, world_of
from oathfall.deeds import WORDS
from oathfall.texts import read_row, read_world, show_row, show_world

from samples import DONE, YES, drawn_bits, histories, look, oath, short_condition

# The line that the document gives, and what it tells.
LINE = "help ab c 2 0 - abc some abcd and did strike who you not owes shun me who"
LINE_TOLD = (
    "help", 3, 4, ("some", 15, ("and", ("did", "strike", "who", "you"), ("not", ("owes", "shun", "me", "who")))),
    2, 0, None, 7,
)
HEAD = "help a b 1 0 - ab"
THINGS = (None, 0, 1, True, False, b"lands 1", ["lands 1"], ("lands 1",), {}, (2, ()), [])


def line(condition="yes", head=HEAD):
    return f"{head} {condition}"


def text(*oaths, n=2):
    return "\n".join([f"lands {n}", *oaths])


# Texts spelled out anew: how a world is written, and whether a text is written so at all.

def lands_written(bits):
    return "".join(letter for k, letter in enumerate("abcdef") if bits & 1 << k) or "-"


def land_written(x):
    return "abcdef"[x] if isinstance(x, int) else x


def written(condition):
    match condition:
        case ("yes",):
            return "yes"
        case ("did" | "owes" as word, what, x, y):
            return f"{word} {what} {land_written(x)} {land_written(y)}"
        case ("began", x, y):
            return f"began {land_written(x)} {land_written(y)}"
        case ("broken", j):
            return f"broken {j}"
        case ("among", x, lands):
            return f"among {land_written(x)} {lands_written(lands)}"
        case ("not", c):
            return f"not {written(c)}"
        case ("and" | "or" as word, c, d):
            return f"{word} {written(c)} {written(d)}"
        case ("some", lands, c):
            return f"some {lands_written(lands)} {written(c)}"
    raise AssertionError(condition)


def oath_written(one):
    duty, makers, wards, condition, span, first, end, knowers = one
    makers, wards, knowers = [lands_written(lands) for lands in (makers, wards, knowers)]
    return f"{duty} {makers} {wards} {span} {first} {'-' if end is None else end} {knowers} {written(condition)}"


def world_written(n, oaths):
    return "\n".join([f"lands {n}"] + [oath_written(one) for one in oaths])


NUMBER = "(?:0|[1-9][0-9]?)"
LANDS = "(?:-|(?=[a-f])a?b?c?d?e?f?)"
LAND = "(?:[a-f]|me|you|who)"
DUTY = "(?:help|spare|shun)"
LEAF = (
    f"yes|did (?:strike|pass|warn|call|help|refuse) {LAND} {LAND}|began {LAND} {LAND}|owes {DUTY} {LAND} {LAND}"
    f"|broken {NUMBER}|among {LAND} {LANDS}|not @|(?:and|or) @ @|some {LANDS} @"
)


# A condition is boiled down from its leaves on: whatever is whole becomes an @.
def is_condition_written(words):
    if "@" in words:
        return False
    before = None
    while before != words:
        before = words
        words = re.sub(f"(?<![^ ])(?:{LEAF})(?![^ ])", "@", words)
    return words == "@"


def is_oath_written(one):
    found = re.fullmatch(f"{DUTY} {LANDS} {LANDS} {NUMBER} {NUMBER} (?:-|{NUMBER}) {LANDS} (.*)", one)
    return found is not None and is_condition_written(found.group(1))


def is_world_written(whole):
    first, *others = whole.split("\n")
    return re.fullmatch(f"lands {NUMBER}", first) is not None and all([is_oath_written(one) for one in others])


def drawn_wide_leaf(draw, n, many, somes):
    lands = list(range(n)) + ["me", "you"] + ["who"] * (3 if somes else 0)
    x, y = draw.choice(lands), draw.choice(lands)
    return draw.choice([
        YES, ("did", draw.choice(DONE), x, y), ("began", x, y), ("owes", draw.choice(DUTIES), x, y),
        ("broken", draw.randrange(many)), ("among", x, draw.randrange(1 << n)),
    ])


def drawn_wide_oath(draw, n, many):
    condition = short_condition(draw, n, many, 6, drawn_wide_leaf)
    first, end = draw.randrange(17), draw.choice([None, *range(18)])
    lands = [draw.choice((0, draw.randrange(1 << n), drawn_bits(draw, n), (1 << n) - 1)) for each in range(3)]
    return (draw.choice(DUTIES), lands[0], lands[1], condition, draw.randrange(1, 10), first, end, lands[2])


def wide_worlds(seed, count):
    draw = random.Random(seed)
    for each in range(count):
        n, many = draw.randrange(1, 7), draw.randrange(9)
        yield world_of(n, [drawn_wide_oath(draw, n, many) for j in range(many)])


class Refusing(unittest.TestCase):
    def refused(self, *texts, with_one=NoText):
        for one in texts:
            with self.subTest(one), self.assertRaises(with_one) as caught:
                read_world(one)
            self.assertIs(type(caught.exception), with_one)

    def no_oath(self, number, *texts):
        for one in texts:
            with self.subTest(one), self.assertRaises(NoOath) as caught:
                read_world(one)
            self.assertEqual(caught.exception.number, number)


class ShowWorld(unittest.TestCase):
    def test_the_line_of_the_document(self):
        self.assertEqual(show_world(world_of(4, [LINE_TOLD])), "lands 4\n" + LINE)

    def test_without_oaths(self):
        for n in range(1, 7):
            self.assertEqual(show_world(world_of(n, [])), f"lands {n}")

    def test_each_oath_on_a_line(self):
        world = world_of(2, [oath(), oath("shun", 3, 0), oath("spare", 0, 3, knowers=2)])
        told = "lands 2\nhelp a b 1 0 - - yes\nshun ab - 1 0 - - yes\nspare - ab 1 0 - b yes"
        self.assertEqual(show_world(world), told)

    def test_lands_as_bits_rising(self):
        for makers in range(64):
            told = show_world(world_of(6, [oath("help", makers, 63 - makers, knowers=makers)]))
            one, other = lands_written(makers), lands_written(63 - makers)
            self.assertEqual(told, f"lands 6\nhelp {one} {other} 1 0 - {one} yes")

    def test_span_first_and_end(self):
        for span, first, end in itertools.product((1, 9), (0, 9, 10, 16), (None, 0, 9, 10, 17)):
            told = show_world(world_of(2, [oath(span=span, first=first, end=end, knowers=3)]))
            self.assertEqual(told, f"lands 2\nhelp a b {span} {first} {'-' if end is None else end} ab yes")

    def test_each_condition(self):
        for condition, words in CONDITIONS:
            self.assertEqual(show_world(world_of(3, [oath(condition=condition, knowers=3)])), text(line(words), n=3))

    def test_as_spelled_out(self):
        for world in wide_worlds(800, 200):
            self.assertEqual(show_world(world), world_written(*world))


CONDITIONS = [
    (("yes",), "yes"),
    (("began", "me", 2), "began me c"),
    (("owes", "spare", "you", 0), "owes spare you a"),
    (("broken", 0), "broken 0"),
    (("among", "you", 0), "among you -"),
    (("among", 1, 5), "among b ac"),
    (("not", ("not", YES)), "not not yes"),
    (("and", ("or", YES, ("broken", 0)), ("began", 0, 0)), "and or yes broken 0 began a a"),
    (("or", YES, ("and", ("broken", 0), ("began", 0, 1))), "or yes and broken 0 began a b"),
    (("some", 0, YES), "some - yes"),
    (("some", 7, ("some", 1, ("among", "who", 2))), "some abc some a among who b"),
    (("and", ("some", 2, look("help", "who", "me")), YES), "and some b owes help who me yes"),
] + [(("did", word, "me", "you"), f"did {word} me you") for word in DONE] + [
    (("owes", duty, "me", "you"), f"owes {duty} me you") for duty in DUTIES
]


class ReadWorld(Refusing):
    def test_the_line_of_the_document(self):
        self.assertEqual(read_world("lands 4\n" + LINE), (4, (LINE_TOLD,)))

    def test_without_oaths(self):
        for n in range(1, 7):
            self.assertEqual(read_world(f"lands {n}"), (n, ()))

    def test_each_condition(self):
        for condition, words in CONDITIONS:
            self.assertEqual(read_world(text(line(words), n=3)), (3, (oath(condition=condition, knowers=3),)))

    def test_lands_as_bits(self):
        for makers in range(64):
            one, other = lands_written(makers), lands_written(63 - makers)
            told = read_world(f"lands 6\nhelp {one} {other} 1 0 - {other} some {one} among a {other}")
            condition = ("some", makers, ("among", 0, 63 - makers))
            self.assertEqual(told, (6, (oath("help", makers, 63 - makers, condition, knowers=63 - makers),)))

    def test_span_first_and_end(self):
        for span, first, end in itertools.product(range(1, 10), range(17), [None, *range(18)]):
            told = read_world(f"lands 2\nshun a b {span} {first} {'-' if end is None else end} - yes")
            self.assertEqual(told, (2, (oath("shun", span=span, first=first, end=end),)))

    def test_a_text_shown_is_read_as_it_was(self):
        for world in wide_worlds(801, 250):
            self.assertEqual(read_world(show_world(world)), world)
            self.assertEqual(read_world(world_written(*world)), world)
        for world, row in histories(801, 100):
            self.assertEqual(read_world(show_world(world)), world)

    def test_a_text_read_is_shown_as_it_was(self):
        for world in wide_worlds(802, 150):
            whole = world_written(*world)
            self.assertEqual(show_world(read_world(whole)), whole)

    def test_one_text_read_twice(self):
        self.assertEqual(read_world("lands 4\n" + LINE), read_world("lands 4\n" + LINE))

    def test_eight_oaths(self):
        self.assertEqual(read_world(text(*[line()] * 8)), (2, (oath(knowers=3),) * 8))


class NoTextAtAll(Refusing):
    def test_no_text(self):
        self.refused(*THINGS)

    def test_the_first_line(self):
        self.refused("", " ", "lands", "lands ", "2", "land 2", "Lands 2", "LANDS 2", "lands b", "lands two", "lands 2 2",
                     "lands 2 ", " lands 2", "lands  2", "lands 02", "lands 00", "lands 002", "lands -", "lands -1",
                     "lands +2", "lands 2.", "lands 100", "lands 2;", "lands2", "lands\n2", "2 lands", "lands 2a", LINE,
                     "lands 1_0", "lands 999999999999999999999")

    def test_blanks_too_many(self):
        good = text(line("and yes not broken 0"), line())
        read_world(good)
        for place, sign in enumerate(good + "\n"):
            if sign in " \n":
                self.refused(good[:place] + " " + good[place:], good[:place] + "  " + good[place:])
        self.refused(" " + good, good.replace("\n", " \n"), good.replace("\n", "\n "))

    def test_two_blanks_or_none_in_the_place_of_one(self):
        good = text(line("and yes not broken 0"))
        for place, sign in enumerate(good):
            if sign == " ":
                self.refused(good[:place] + good[place + 1:])

    def test_lines_without_words(self):
        self.refused("\n", "\nlands 2", "lands 2\n", "lands 2\n\n", "lands 2\n ", text("", line()), text(line(), ""),
                     text(line(), "", line()), text(line()) + "\n", text(line()) + "\n\n", "\n" + text(line()))

    def test_a_line_feed_in_the_place_of_a_blank(self):
        good = text(line("and yes not broken 0"))
        for place, sign in enumerate(good):
            if sign == " ":
                self.refused(good[:place] + "\n" + good[place + 1:])
        self.refused(good.replace("\n", " "), good.replace("\n", "\t"), good.replace("\n", "\r\n"),
                     good.replace("\n", ";"), good.replace("\n", "; "))

    def test_great_letters(self):
        good = text("help ab c 2 0 - abc some abc and did strike who you not owes shun me who", n=3)
        read_world(good)
        for place, sign in enumerate(good):
            if sign.isalpha():
                self.refused(good[:place] + sign.upper() + good[place + 1:])
        self.refused(good.upper())

    def test_a_word_of_another_kind_in_each_place(self):
        good = text(line("and some ab and did strike who b owes help me a and broken 0 among you a"))
        read_world(good)
        words = good.split("\n")[1].split(" ")
        others = ["help", "strike", "a", "ab", "-", "0", "yes", "not", "me", "who", "peace", "lands", "by", "none"]
        for place, word in enumerate(words):
            for other in others:
                whole = " ".join(words[:place] + [other] + words[place + 1:])
                if not is_oath_written(whole):
                    self.refused(text(whole))
        for word in ("aid", "hel", "helps", "strike", "pass", "yes", "a", "-", "0", "Help", ""):
            self.refused(text(line().replace("help", word, 1)))

    def test_a_word_too_few_or_twice(self):
        words = line("and yes not owes help me you").split(" ")
        read_world(text(" ".join(words)))
        for place, word in enumerate(words):
            self.refused(text(" ".join(words[:place])))
            if word != "not":
                self.refused(text(" ".join(words[:place] + words[place + 1:])),
                             text(" ".join(words[:place + 1] + words[place:])))

    def test_words_behind_a_whole_condition(self):
        for condition, words in CONDITIONS:
            for more in ("yes", "not", "a", "0", "-", "and", "", "me", words):
                self.refused(text(line(f"{words} {more}"), n=3))

    def test_a_condition_that_ends_too_early(self):
        for condition, words in CONDITIONS:
            for count in range(len(words.split(" "))):
                self.refused(text(line(" ".join(words.split(" ")[:count])), n=3),
                             text(" ".join([HEAD] + words.split(" ")[:count]), n=3))
        self.refused(text(line("and yes")), text(line("and yes and yes")), text(line("some ab")), text(line("not not")))

    def test_a_condition_with_another_word(self):
        for word in ("no", "nor", "xor", "all", "is", "help", "strike", "peace", "me", "a", "-", "0", "", "Yes"):
            self.refused(text(line(word)), text(line("not " + word)), text(line("and yes " + word)),
                         text(line("some a " + word)))

    def test_letters_not_rising_or_twice(self):
        for lands in ("ba", "aa", "aba", "abb", "cab", "a-", "-a", "--", "g", "ag", "A", "aB", "0", "1", "3", "a,b", ""):
            for place in (1, 2, 6):
                words = line().split(" ")
                words[place] = lands
                self.refused(text(" ".join(words), n=6))
            self.refused(text(line(f"some {lands} yes"), n=6), text(line(f"among me {lands}"), n=6))

    def test_lands_in_the_places_of_x_and_y(self):
        for x in ("ab", "-", "g", "z", "A", "Me", "ME", "us", "0", "1", "", "mee", "m", "whom", "he"):
            for condition in (f"began {x} a", f"began a {x}", f"did warn {x} b", f"did warn b {x}", f"owes shun {x} me",
                              f"owes shun me {x}", f"among {x} ab", f"some a began {x} who"):
                self.refused(text(line(condition)))

    def test_words_me_you_and_who_in_the_places_of_lands_as_bits(self):
        for word in ("me", "you", "who"):
            self.refused(text(line(f"some {word} yes")), text(line(f"among a {word}")), text(f"help {word} b 1 0 - a yes"),
                         text(f"help a {word} 1 0 - a yes"), text(f"help a b 1 0 - {word} yes"))

    def test_words_of_deeds_and_duties(self):
        for word in ("peace", "spare", "shun", "Strike", "hit", "a", "0", "-", ""):
            self.refused(text(line(f"did {word} me you")), text(line(f"not did {word} me you")))
        for word in ("strike", "pass", "warn", "call", "refuse", "peace", "Help", "a", "0", "-", ""):
            self.refused(text(line(f"owes {word} me you")), text(f"{word} a b 1 0 - ab yes"))

    def test_numbers(self):
        for number in ("00", "01", "09", "010", "100", "117", "-1", "+1", "1.", "1_0", "a", "", "0x1", "one", "1e1", "--",
                       "999999999999999999999999"):
            self.refused(text(f"help a b {number} 0 - ab yes"), text(f"help a b 1 {number} - ab yes"),
                         text(f"help a b 1 0 {number} ab yes"), text(line(f"broken {number}")))
        self.refused(text("help a b - 0 - ab yes"), text("help a b 1 - - ab yes"), text(line("broken -")))

    def test_none_in_the_place_of_an_end(self):
        self.refused(text("help a b 1 0 None ab yes"), text("help a b 1 0 none ab yes"), text("help a b 1 0 a ab yes"))


class ThenAsAWorld(Refusing):
    def test_lands(self):
        self.refused("lands 0", "lands 7", "lands 9", "lands 10", "lands 99", text(line(), n=0), with_one=NoLand)

    def test_more_than_eight_oaths(self):
        for count in (9, 10, 11):
            self.refused(text(*[line()] * count), with_one=TooMany)

    def test_span_first_and_end(self):
        for number in range(100):
            for head, good in ((f"help a b {number} 0 - ab", 1 <= number <= 9), (f"help a b 1 {number} - ab", number <= 16),
                               (f"help a b 1 0 {number} ab", number <= 17)):
                if good:
                    read_world(text(line(head=head)))
                else:
                    self.no_oath(0, text(line(head=head)))

    def test_letters_of_lands_that_are_none(self):
        for n in range(1, 6):
            beyond = "abcdef"[n]
            for words in (f"help {beyond} a 1 0 - a yes", f"help a {beyond} 1 0 - a yes", f"help a a 1 0 - {beyond} yes",
                          f"help a a 1 0 - a began a {beyond}", f"help a a 1 0 - a did warn {beyond} me",
                          f"help a a 1 0 - a owes shun you {beyond}", f"help a a 1 0 - a among a {beyond}",
                          f"help a a 1 0 - a among {beyond} a", f"help a a 1 0 - a some {beyond} yes",
                          f"help af a 1 0 - a yes"):
                self.no_oath(0, text(words, n=n))
                self.no_oath(1, text("help a - 1 0 - a yes", words, n=n))
                if "f" not in words:
                    read_world(text(words, n=n + 1))

    def test_oaths_that_are_none(self):
        for many in range(1, 9):
            oaths = [line() for j in range(many - 1)]
            read_world(text(line(f"broken {many - 1}"), *oaths))
            for j in (many, 9, 10, 99):
                if j >= many:
                    self.no_oath(0, text(line(f"broken {j}"), *oaths))
                    self.no_oath(many - 1, text(*oaths, line(f"broken {j}")))

    def test_who_outside_of_a_some(self):
        self.no_oath(0, text(line("began who me")), text(line("and some a yes among who a")),
                     text(line("or some a yes owes help me who")))

    def test_too_many_parts_too_deep_and_three_somes(self):
        read_world(text(line("not " * 5 + "yes")))
        read_world(text(line("and " * 5 + " ".join(["yes"] * 6))))
        read_world(text(line("some a some a yes")))
        twelve = "and and yes yes and and yes yes and yes not yes"
        read_world(text(line(twelve)))
        self.no_oath(0, text(line("not " * 6 + "yes")), text(line("some a some a some a yes")),
                     text(line(twelve.replace("not yes", "not not yes"))),
                     text(line(twelve.replace("not yes", "and yes yes"))))

    def test_a_line_as_long_as_a_line_may_be(self):
        for word in ("not", "and", "or"):
            count = (300 - len(HEAD) - 4) // (len(word) + 1) // 2
            parts = 2 if word != "not" else 1
            whole = f"{word} " * count + " ".join(["yes"] * (1 if parts == 1 else count + 1))
            self.no_oath(0, text(line(whole)))
            self.refused(text(line(whole + " yes")), text(line(f"{word} " + whole + ("" if parts > 1 else " a"))))
        deep = "not " * 69
        self.no_oath(0, text(line(deep + "yes")))
        self.refused(text(line(deep + "no")), text(line(deep.rstrip())))

    def test_a_line_far_longer(self):
        self.no_oath(0, text(line("not " * 3000 + "yes")))
        self.refused(text(line("not " * 3000)), text(line("and " * 3000 + "yes")))

    def test_what_is_no_text_goes_first_then_lands_then_many_then_the_first_oath(self):
        bad, wrong = line("yes yes"), line(head="help a b 0 0 - ab")
        self.refused(text(bad, n=0), text(bad, n=7), text(*[line()] * 8, bad), text(*[line()] * 10, bad),
                     text(wrong, bad), text(line("broken 9"), bad), text(bad, wrong))
        self.refused(text(wrong, n=7), text(*[wrong] * 9, n=7), with_one=NoLand)
        self.refused(text(*[wrong] * 9), text(*[line()] * 8, wrong), with_one=TooMany)
        self.no_oath(1, text(line(), wrong, wrong))
        self.no_oath(0, text(wrong, line("broken 9")))

    def test_it_is_refused_just_as_the_world_is(self):
        draw = random.Random(803)
        found = set()
        for world in wide_worlds(803, 400):
            n = draw.choice([world[0]] * 6 + [0, 7, 1, 2])
            oaths = list(world[1]) * draw.choice((1, 1, 1, 1, 2))
            for j, one in enumerate(oaths):
                place = draw.randrange(40)
                if place in (4, 5, 6):
                    oaths[j] = one[:place] + (draw.randrange(100),) + one[place + 1:]
                elif place == 3:
                    oaths[j] = one[:3] + (draw.choice((("not", one[3]), ("broken", 8), ("began", "who", 0),
                                                       ("some", 1, ("some", 1, one[3])))),) + one[4:]
            found.add(self.alike(n, oaths))
        self.assertEqual(found, {"world", NoLand, NoOath, TooMany})

    def alike(self, n, oaths):
        whole = world_written(n, oaths)
        try:
            world = world_of(n, oaths)
        except OathError as error:
            with self.assertRaises(type(error)) as caught:
                read_world(whole)
            if isinstance(error, NoOath):
                self.assertEqual(caught.exception.number, error.number)
            return type(error)
        self.assertEqual(read_world(whole), world)
        return "world"

    def test_texts_with_words_or_signs_exchanged(self):
        draw = random.Random(804)
        words = ["a", "b", "ab", "ba", "-", "0", "1", "9", "17", "00", "yes", "not", "and", "or", "some", "did", "owes",
                 "began", "broken", "among", "help", "shun", "strike", "peace", "me", "you", "who", "", "\n", "lands"]
        found = {True: 0, False: 0}
        for world in wide_worlds(804, 300):
            whole = world_written(*world)
            for each in range(12):
                other = self.spoiled(draw, whole, words)
                good = is_world_written(other)
                found[good] += other != whole
                if not good:
                    self.refused(other)
                    continue
                try:
                    self.assertEqual(show_world(read_world(other)), other)
                except (NoLand, NoOath, TooMany):
                    pass
        self.assertGreater(min(found.values()), 100)

    def spoiled(self, draw, whole, words):
        if draw.random() < 0.5:
            parts = whole.split(" ")
            place = draw.randrange(len(parts))
            kept = draw.choice((0, 1, 1, 1, 2))
            return " ".join(parts[:place] + [draw.choice(words)] * draw.randrange(2) + parts[place + kept:])
        place = draw.randrange(len(whole) + 1)
        return whole[:place] + draw.choice(("", " ", "a", "b", "0", "1", "-", "\n", ";")) + whole[place + draw.randrange(2):]


class Rows(unittest.TestCase):
    WORLD = world_of(3, [])

    def refused(self, *texts, world=WORLD):
        for one in texts:
            with self.subTest(one), self.assertRaises(NoText):
                read_row(world, one)

    def test_each_word(self):
        for word in WORDS:
            self.assertEqual(show_row([(word, 2, 0)]), f"{word} c a")
            self.assertEqual(read_row(self.WORLD, f"{word} c a"), [(word, 2, 0)])

    def test_each_two_lands(self):
        world = world_of(6, [])
        for a, b in itertools.permutations(range(6), 2):
            one = f"help {'abcdef'[a]} {'abcdef'[b]}"
            self.assertEqual(show_row([("help", a, b)]), one)
            self.assertEqual(read_row(world, one), [("help", a, b)])

    def test_without_deeds(self):
        self.assertEqual(show_row([]), "")
        for n in range(1, 7):
            self.assertEqual(read_row(world_of(n, []), ""), [])

    def test_several_deeds(self):
        row = [("strike", 0, 1), ("peace", 1, 0), ("help", 2, 1)]
        self.assertEqual(show_row(row), "strike a b; peace b a; help c b")
        self.assertEqual(read_row(self.WORLD, "strike a b; peace b a; help c b"), row)

    def test_sixteen_deeds_and_seventeen(self):
        row = [("warn", k % 3, (k + 1) % 3) for k in range(16)]
        self.assertEqual(read_row(self.WORLD, show_row(row)), row)
        self.refused(show_row(row + [("warn", 0, 1)]), show_row(row * 2))

    def test_no_text(self):
        self.refused(*THINGS)

    def test_a_word_that_is_no_deed(self):
        self.refused("spare a b", "shun a b", "hit a b", "Strike a b", "STRIKE a b", "a a b", "0 a b", " a b", "do a b",
                     "warn a b; shun a b")

    def test_too_few_and_too_many_words(self):
        self.refused("warn", "warn a", "a b", "warn a b c", "warn a b b", "warn warn a b", "warn a b warn a b", ";", " ")

    def test_the_same_land_twice(self):
        self.refused("warn a a", "peace c c", "warn a b; warn b b")

    def test_a_land_that_is_none(self):
        self.refused("warn a d", "warn d a", "warn a f", "warn a g", "warn A b", "warn 0 1", "warn me you", "warn a -",
                     "warn ab c", "warn a ", "warn  b", "warn a who")
        for n in range(1, 6):
            beyond = "abcdef"[n]
            self.refused(f"warn a {beyond}", f"warn {beyond} a", world=world_of(n, []))
            self.assertEqual(read_row(world_of(n + 1, []), f"warn a {beyond}"), [("warn", 0, n)])

    def test_blanks_and_partings(self):
        good = "warn a b; help b c"
        self.refused(" " + good, good + " ", good + ";", good + "; ", "; " + good, ";" + good, good.replace("; ", ";"),
                     good.replace(";", ""), good.replace("; ", ";  "), good.replace("; ", " ; "), good.replace("; ", ", "),
                     good.replace("; ", "\n"), good.replace("; ", ";\n"), good + "\n", "\n" + good, good.replace("; ", "; ; "),
                     good.replace(" a", "  a"), good.replace(" a", ""), good.replace(" ", "\t"), "\n", good.replace("; ", ";; "))

    def test_a_row_shown_is_read_as_it_was(self):
        for world, row in histories(805, 150, (1, 2, 3, 4, 5, 6), most_deeds=16):
            self.assertEqual(read_row(world, show_row(row)), row)

    def test_a_text_read_is_shown_as_it_was(self):
        draw = random.Random(806)
        read = 0
        for world, row in histories(806, 300, (2, 3, 6), most_deeds=16):
            whole = show_row(row)
            words = whole.split(" ")
            place = draw.randrange(len(words))
            other = draw.choice(("a", "b;", "b", "c", "f", "f;", "warn", "peace", "b; call", "", "b;\n", "shun"))
            other = " ".join(words[:place] + [other] + words[place + draw.choice((0, 1, 1, 1)):])
            good = other == "" or all([self.is_written(world[0], one) for one in other.split("; ")])
            if not good or other.count(";") > 15:
                self.refused(other, world=world)
            else:
                self.assertEqual(show_row(read_row(world, other)), other)
                read += other != whole
        self.assertGreater(read, 20)

    def is_written(self, n, one):
        lands = "abcdef"[:n]
        found = re.fullmatch(f"({'|'.join(WORDS)}) ([{lands}]) ([{lands}])", one)
        return found is not None and found.group(2) != found.group(3)


class NothingIsShared(unittest.TestCase):
    def test_what_is_handed_in_is_not_changed(self):
        for world, row in histories(807, 30):
            kept = (repr(world), list(row))
            show_world(world)
            show_row(row)
            read_row(world, show_row(row))
            self.assertEqual((repr(world), row), kept)

    def test_what_is_told_is_the_askers_own(self):
        world = world_of(2, [])
        for one in ("", "warn a b"):
            told = read_row(world, one)
            kept = list(told)
            told.append(("warn", 1, 0))
            self.assertEqual(read_row(world, one), kept)


if __name__ == "__main__":
    unittest.main()
