import unittest

from leasttolls import errors

NAMES = [
    "NotSteady", "TooMuch", "TooLong", "NoMaking", "NoPaper", "NoPair", "NoText", "NoRow", "NoName",
]


class Errors(unittest.TestCase):
    def test_toll_error_stands_under_value_error(self):
        self.assertEqual(errors.TollError.__bases__, (ValueError,))

    def test_each_stands_straight_under_toll_error(self):
        for name in NAMES:
            self.assertEqual(getattr(errors, name).__bases__, (errors.TollError,), name)

    def test_none_stands_under_another(self):
        for one in NAMES:
            for other in NAMES:
                under = issubclass(getattr(errors, one), getattr(errors, other))
                self.assertEqual(under, one == other, (one, other))

    def test_values_are_set_when_made(self):
        self.assertEqual(errors.NoMaking(7).at, 7)
        paper = errors.NoPaper("rows", 12)
        self.assertEqual((paper.where, paper.at), ("rows", 12))

    def test_at_is_0_where_no_number_is_told(self):
        self.assertEqual(errors.NoMaking().at, 0)
        self.assertEqual(errors.NoPaper("word").at, 0)

    def test_values_are_the_objects_own(self):
        one = errors.NoMaking(1)
        other = errors.NoMaking(2)
        self.assertEqual((one.at, other.at), (1, 2))

    def test_each_can_be_raised_and_taken(self):
        for name in NAMES:
            with self.assertRaises(errors.TollError):
                raise getattr(errors, name)()


if __name__ == "__main__":
    unittest.main()
