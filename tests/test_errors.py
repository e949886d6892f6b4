import unittest

from onename import errors
from onename.errors import (
    Busy, Down, HouseError, NoClaim, NoDeed, NoLetter, NoRow, NoText, TooMany, Up,
)

REFUSALS = (NoDeed, Down, Up, NoLetter, Busy, NoClaim, TooMany, NoText, NoRow)


class ErrorsTest(unittest.TestCase):
    def test_house_error_stands_straight_under_value_error(self):
        self.assertEqual(HouseError.__bases__, (ValueError,))

    def test_each_refusal_stands_straight_under_house_error(self):
        for refusal in REFUSALS:
            self.assertEqual(refusal.__bases__, (HouseError,), refusal)

    def test_no_refusal_stands_under_another(self):
        for one in REFUSALS:
            for other in REFUSALS:
                self.assertEqual(issubclass(one, other), one is other, (one, other))

    def test_they_are_called_as_the_document_calls_them(self):
        names = ["NoDeed", "Down", "Up", "NoLetter", "Busy", "NoClaim", "TooMany", "NoText", "NoRow"]
        self.assertEqual([refusal.__name__ for refusal in REFUSALS], names)
        self.assertEqual(HouseError.__name__, "HouseError")
        for name in names:
            self.assertEqual(getattr(errors, name).__module__, "onename.errors")

    def test_each_can_be_raised_and_caught_as_a_house_error(self):
        for refusal in REFUSALS:
            with self.assertRaises(HouseError):
                raise refusal("so")
            with self.assertRaises(ValueError):
                raise refusal()


if __name__ == "__main__":
    unittest.main()
