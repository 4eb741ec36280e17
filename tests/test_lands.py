import unittest

from oathfall.lands import is_land, lands_of


class Lands(unittest.TestCase):
    def test_is_land(self):
        for n in range(1, 7):
            for land in range(-2, 9):
                self.assertIs(is_land(n, land), 0 <= land < n)

    def test_a_text_or_a_truth_is_no_land(self):
        for thing in ("me", "0", "", True, False, None):
            self.assertIs(is_land(6, thing), False)

    def test_lands_of_bits(self):
        self.assertEqual(lands_of(0), [])
        for bits in range(64):
            lands = lands_of(bits)
            self.assertEqual(lands, sorted(lands))
            self.assertEqual(sum([1 << land for land in lands]), bits)

    def test_what_is_told_is_the_askers_own(self):
        lands_of(5).clear()
        self.assertEqual(lands_of(5), [0, 2])


if __name__ == "__main__":
    unittest.main()
