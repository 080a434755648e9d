import inspect
import unittest

from cases import LONG, all_short_shuns, all_sit_off, seatings_off_by_trying, with_at
from offseat.answers import Answer, Barred, Seated
from offseat.counting import counts
from offseat.telling import seated


class Telling(unittest.TestCase):
    def hold(self, shuns, is_barred):
        answer = seated(shuns)
        self.assertIs(type(answer), Barred if is_barred else Seated, shuns)
        self.assertIsInstance(answer, Answer)
        if is_barred:
            self.assertIs(type(answer.seat), int)
            self.assertTrue(0 <= answer.seat < len(shuns), shuns)
            self.assertEqual(shuns, [answer.seat] * len(shuns))
        else:
            self.assertIs(type(answer.seating), list)
            self.assertEqual(sorted(answer.seating), list(range(len(shuns))))
            self.assertTrue(all(type(seat) is int for seat in answer.seating))
            self.assertTrue(all_sit_off(shuns, answer.seating), (shuns, answer.seating))
        self.assertIs(answer.shows(shuns), True)

    def test_no_guests_at_all(self):
        self.hold([], False)
        self.assertEqual(seated([]).seating, [])

    def test_one_guest(self):
        self.hold([0], True)
        self.hold([-1], False)

    def test_every_short_list(self):
        for shuns in all_short_shuns(5):
            self.hold(shuns, seatings_off_by_trying(shuns) == [])

    def test_long_lists(self):
        for shuns in LONG:
            self.hold(shuns, counts(shuns)[0] == 0)

    def test_each_another_seat(self):
        for guests in (2, 3, 59, 60, 61):
            for turn in (0, 1, guests - 1):
                self.hold([(k + turn) % guests for k in range(guests)], False)

    def test_all_of_one_seat_and_all_but_one(self):
        for guests in (2, 3, 59, 60, 61):
            for seat in {0, 1, guests // 2, guests - 1}:
                shuns = [seat] * guests
                self.hold(shuns, True)
                for place in {0, seat, guests // 2, guests - 1}:
                    for other in {-1, 0, 1, place, guests - 1} - {seat}:
                        self.hold(with_at(shuns, place, other), False)

    def test_all_of_none(self):
        for guests in (1, 2, 59, 60, 61):
            self.hold([-1] * guests, False)

    def test_few_seats_shunned_by_many(self):
        for seats in ([0, 1], [58, 59], [0, 30, 59], [7, 7, 7, 8], [-1, 5, 5, 5], [0, 0, 59]):
            self.hold([seats[k % len(seats)] for k in range(60)], False)
            self.hold(sorted(seats[k % len(seats)] for k in range(60)), False)

    def test_the_argument_by_name(self):
        self.assertEqual(list(inspect.signature(seated).parameters), ["shuns"])


if __name__ == "__main__":
    unittest.main()
