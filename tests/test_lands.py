import unittest

from oathfall.lands import are_lands, is_between, is_land, is_whole, lands_of

SIXTY_FIGURES = 10 ** 60 - 1
NO_NUMBERS = ("me", "0", "", True, False, None)


class Lands(unittest.TestCase):
    def test_is_whole(self):
        for number in (0, 1, -1, SIXTY_FIGURES, -SIXTY_FIGURES):
            self.assertIs(is_whole(number), True)
        for thing in NO_NUMBERS:
            self.assertIs(is_whole(thing), False)

    def test_is_between(self):
        for number in range(-3, 12):
            self.assertIs(is_between(1, 9, number), 1 <= number <= 9)
        for thing in NO_NUMBERS:
            self.assertIs(is_between(-5, 5, thing), False)

    def test_is_land(self):
        for n in range(1, 7):
            for land in range(-2, 9):
                self.assertIs(is_land(n, land), 0 <= land < n)

    def test_a_text_or_a_truth_is_no_land(self):
        for thing in NO_NUMBERS:
            self.assertIs(is_land(6, thing), False)

    def test_are_lands(self):
        for n in range(1, 7):
            for bits in range(-70, 140):
                self.assertIs(are_lands(n, bits), 0 <= bits < 2 ** n)
        for thing in NO_NUMBERS + (SIXTY_FIGURES, -SIXTY_FIGURES):
            self.assertIs(are_lands(6, thing), False)

    def test_lands_of_bits(self):
        self.assertEqual(lands_of(0), [])
        for bits in range(64):
            lands = lands_of(bits)
            self.assertEqual(lands, sorted(lands))
            self.assertEqual(sum([1 << land for land in lands]), bits)

    def test_what_is_told_is_the_askers_own(self):
        lands_of(5).clear()
        self.assertEqual(lands_of(5), [0, 2])


if __name__ == "__main__":
    unittest.main()
