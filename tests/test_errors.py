import unittest

from offseat.errors import BadNumber, BadSeating, BadShuns, SeatError


class ErrorClasses(unittest.TestCase):
    def test_seat_error_stands_straight_under_value_error(self):
        self.assertEqual(SeatError.__bases__, (ValueError,))

    def test_each_refusal_stands_straight_under_seat_error(self):
        for refusal in (BadShuns, BadNumber, BadSeating):
            self.assertEqual(refusal.__bases__, (SeatError,))

    def test_the_refusals_are_three(self):
        self.assertEqual(len({BadShuns, BadNumber, BadSeating}), 3)


if __name__ == "__main__":
    unittest.main()
