import itertools
import unittest

from oathfall.deeds import WORDS, began, did, is_deed

SIXTY_FIGURES = 10 ** 60 - 1
DONE = ("strike", "pass", "warn", "call", "help", "refuse")


class Words(unittest.TestCase):
    def test_seven_words_in_their_order(self):
        self.assertIsInstance(WORDS, tuple)
        self.assertEqual(WORDS, ("strike", "pass", "warn", "call", "help", "refuse", "peace"))


class IsDeed(unittest.TestCase):
    def test_each_word_with_any_two_lands(self):
        for n in range(1, 7):
            for word in WORDS:
                for a, b in itertools.product(range(n), repeat=2):
                    self.assertIs(is_deed(n, (word, a, b)), a != b, (n, word, a, b))

    def test_one_land_alone_has_no_deed(self):
        for word in WORDS:
            for a, b in itertools.product((-1, 0, 1), repeat=2):
                self.assertIs(is_deed(1, (word, a, b)), False)

    def test_another_word(self):
        others = [
            "", " ", "Strike", "STRIKE", "strikes", "strik", " strike", "strike ", "strike warn",
            "strikewarn", "spare", "shun", "owes", "yes", "me", "a",
        ]
        for word in others:
            self.assertIs(is_deed(6, (word, 0, 1)), False, word)

    def test_a_land_that_is_none(self):
        for n in range(1, 7):
            for land in (-1, n, n + 1, SIXTY_FIGURES, -SIXTY_FIGURES):
                for word in WORDS:
                    self.assertIs(is_deed(n, (word, 0, land)), False, (n, word, land))
                    self.assertIs(is_deed(n, (word, land, 0)), False, (n, word, land))

    def test_the_same_land_twice(self):
        for n in range(1, 7):
            for land in range(n):
                for word in WORDS:
                    self.assertIs(is_deed(n, (word, land, land)), False)

    def test_too_few_or_too_many_parts(self):
        for word in WORDS:
            for thing in ((word,), (word, 0), (word, 1), (word, 0, 1, 2), (word, 0, 1, 0), (word, 0, 1, 1)):
                self.assertIs(is_deed(6, thing), False, thing)

    def test_a_truth_is_no_land(self):
        self.assertIs(is_deed(6, ("strike", True, 0)), False)
        self.assertIs(is_deed(6, ("strike", 1, False)), False)


class Done(unittest.TestCase):
    def test_without_deeds(self):
        for word in DONE:
            self.assertIs(did([], word, 0, 1), False)

    def test_each_word_by_itself(self):
        for word in DONE:
            for asked in DONE:
                self.assertIs(did([(word, 0, 1)], asked, 0, 1), asked == word)

    def test_it_goes_one_way_round(self):
        for word in DONE:
            self.assertIs(did([(word, 2, 1)], word, 2, 1), True)
            self.assertIs(did([(word, 2, 1)], word, 1, 2), False)

    def test_deeds_of_others_between(self):
        row = [("warn", 2, 0), ("strike", 0, 1), ("help", 2, 1), ("peace", 2, 3), ("strike", 1, 2)]
        self.assertIs(did(row, "strike", 0, 1), True)
        self.assertIs(did(row, "help", 2, 1), True)
        self.assertIs(did(row, "help", 0, 1), False)
        self.assertIs(did(row, "strike", 0, 2), False)

    def test_ahead_of_a_peace_of_the_two_by_whichever(self):
        for word in DONE:
            for peace in (("peace", 0, 1), ("peace", 1, 0)):
                row = [(word, 0, 1), (word, 1, 0), peace]
                self.assertIs(did(row, word, 0, 1), False)
                self.assertIs(did(row, word, 1, 0), False)

    def test_behind_a_peace_of_the_two(self):
        for word in DONE:
            for peace in (("peace", 0, 1), ("peace", 1, 0)):
                row = [(word, 1, 0), peace, (word, 0, 1)]
                self.assertIs(did(row, word, 0, 1), True)
                self.assertIs(did(row, word, 1, 0), False)

    def test_the_last_of_several_peaces_counts(self):
        row = [("peace", 0, 1), ("call", 0, 1), ("peace", 1, 0), ("warn", 0, 1)]
        self.assertIs(did(row, "call", 0, 1), False)
        self.assertIs(did(row, "warn", 0, 1), True)

    def test_a_peace_with_a_third_land_wipes_nothing_out(self):
        for peace in (("peace", 0, 2), ("peace", 2, 0), ("peace", 1, 2), ("peace", 2, 1)):
            for word in DONE:
                self.assertIs(did([(word, 0, 1), peace], word, 0, 1), True)


class Begun(unittest.TestCase):
    def test_without_deeds(self):
        self.assertIs(began([], 0, 1), False)

    def test_by_a_strike_alone(self):
        for word in WORDS:
            self.assertIs(began([(word, 0, 1)], 0, 1), word == "strike")
            self.assertIs(began([(word, 0, 1)], 1, 0), False)

    def test_the_second_strike_is_no_beginning(self):
        row = [("strike", 1, 0), ("strike", 0, 1)]
        self.assertIs(began(row, 0, 1), False)
        self.assertIs(began(row, 1, 0), True)

    def test_other_deeds_ahead_of_the_first_strike(self):
        row = [("warn", 1, 0), ("strike", 1, 2), ("strike", 2, 0), ("strike", 0, 1), ("strike", 1, 0)]
        self.assertIs(began(row, 0, 1), True)
        self.assertIs(began(row, 1, 0), False)
        self.assertIs(began(row, 1, 2), True)
        self.assertIs(began(row, 2, 0), True)

    def test_ahead_of_a_peace_of_the_two_by_whichever(self):
        for peace in (("peace", 0, 1), ("peace", 1, 0)):
            row = [("strike", 0, 1), peace]
            self.assertIs(began(row, 0, 1), False)
            self.assertIs(began(row, 1, 0), False)

    def test_behind_a_peace_the_other_may_begin(self):
        for peace in (("peace", 0, 1), ("peace", 1, 0)):
            row = [("strike", 0, 1), peace, ("strike", 1, 0), ("strike", 0, 1)]
            self.assertIs(began(row, 0, 1), False)
            self.assertIs(began(row, 1, 0), True)

    def test_a_peace_with_a_third_land_wipes_nothing_out(self):
        for peace in (("peace", 0, 2), ("peace", 2, 0), ("peace", 1, 2), ("peace", 2, 1)):
            row = [("strike", 0, 1), peace, ("strike", 1, 0)]
            self.assertIs(began(row, 0, 1), True)
            self.assertIs(began(row, 1, 0), False)


def last_peace(row, a, b):
    places = [k for k, deed in enumerate(row) if deed[0] == "peace" and set(deed[1:]) == {a, b}]
    return max(places, default=-1)


class EveryShortRow(unittest.TestCase):
    DEEDS = [
        (word, a, b)
        for word in ("strike", "warn", "peace")
        for a, b in ((0, 1), (1, 0), (0, 2), (2, 1))
    ]

    def rows(self):
        for length in range(4):
            for deeds in itertools.product(self.DEEDS, repeat=length):
                yield list(deeds)

    def test_done_by_the_words_of_the_document(self):
        for row in self.rows():
            for a, b in ((0, 1), (1, 0), (2, 1)):
                behind = row[last_peace(row, a, b) + 1:]
                for word in ("strike", "warn"):
                    self.assertIs(did(row, word, a, b), behind.count((word, a, b)) > 0, row)

    def test_begun_by_the_words_of_the_document(self):
        for row in self.rows():
            for a, b in ((0, 1), (1, 0), (2, 1)):
                behind = row[last_peace(row, a, b) + 1:]
                strikers = [deed[1] for deed in behind if deed[0] == "strike" and set(deed[1:]) == {a, b}]
                self.assertIs(began(row, a, b), strikers[:1] == [a], row)


class NothingIsChanged(unittest.TestCase):
    def test_the_row_stays_as_it_was(self):
        row = [("strike", 0, 1), ("peace", 1, 0), ("strike", 1, 0), ("help", 2, 0)]
        kept = list(row)
        for a, b in itertools.permutations(range(3), 2):
            began(row, a, b)
            for word in DONE:
                did(row, word, a, b)
        self.assertEqual(row, kept)

    def test_a_row_changed_later_is_read_anew_each_time(self):
        row = [("strike", 0, 1)]
        self.assertIs(did(row, "strike", 0, 1), True)
        self.assertIs(began(row, 0, 1), True)
        row.append(("peace", 0, 1))
        self.assertIs(did(row, "strike", 0, 1), False)
        self.assertIs(began(row, 0, 1), False)
        row.clear()
        row.append(("strike", 1, 0))
        self.assertIs(began(row, 1, 0), True)


if __name__ == "__main__":
    unittest.main()
