import unittest

from oathfall.errors import NoDeed, NoLand, NoOath, NoRow, NoText, OathError, TooMany

REFUSALS = (NoLand, NoOath, NoText, NoRow, NoDeed, TooMany)


class Refusals(unittest.TestCase):
    def test_any_refusal_stands_straight_under_value_error(self):
        self.assertEqual(OathError.__bases__, (ValueError,))

    def test_each_stands_straight_under_oath_error(self):
        for refusal in REFUSALS:
            self.assertEqual(refusal.__bases__, (OathError,), refusal)

    def test_none_stands_under_another_one(self):
        for one in REFUSALS:
            for other in REFUSALS:
                self.assertEqual(issubclass(one, other), one is other, (one, other))

    def test_each_bears_its_own_name(self):
        names = [refusal.__name__ for refusal in REFUSALS]
        self.assertEqual(names, ["NoLand", "NoOath", "NoText", "NoRow", "NoDeed", "TooMany"])

    def test_each_is_raised_and_taken_by_its_name(self):
        for refusal in (NoLand, NoText, NoRow, NoDeed, TooMany):
            with self.assertRaises(refusal):
                raise refusal("some words")
            with self.assertRaises(OathError):
                raise refusal("some words")

    def test_no_oath_has_its_number(self):
        for number in (0, 3, 7):
            with self.assertRaises(NoOath) as taken:
                raise NoOath(number)
            self.assertEqual(taken.exception.number, number)

    def test_each_no_oath_has_a_number_of_its_own(self):
        one = NoOath(1)
        two = NoOath(2)
        self.assertEqual((one.number, two.number), (1, 2))


if __name__ == "__main__":
    unittest.main()
