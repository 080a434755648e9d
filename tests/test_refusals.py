import unittest

from cases import LONG, NO_LISTS, NO_WHOLE_NUMBERS, all_short_shuns, seatings_off_by_trying, some_places, with_at
from offseat.counting import counts
from offseat.errors import BadNumber, BadSeating, BadShuns
from offseat.seating import number_of, seating_of
from offseat.telling import seated

HUGE = 10 ** 6000
BAD_NUMBERS = NO_WHOLE_NUMBERS + [-1, -2, -(2 ** 64), -HUGE, HUGE]
BAD_SEATINGS = NO_LISTS + [[0, 0], [0], [0, 1, 2], [True, False], [-1, 0], [1, 2], [None, 0], [1, HUGE]]


class Refusing(unittest.TestCase):
    def refuse(self, error, function, *handed):
        with self.assertRaises(error) as caught:
            function(*handed)
        self.assertIs(type(caught.exception), error)


class RefusedShuns(Refusing):
    def refuse_shuns(self, shuns):
        guests = len(shuns) if isinstance(shuns, list) else 0
        self.refuse(BadShuns, counts, shuns)
        self.refuse(BadShuns, seated, shuns)
        self.refuse(BadShuns, seating_of, shuns, 0)
        self.refuse(BadShuns, number_of, shuns, list(range(guests)))
        self.refuse(BadShuns, number_of, shuns, list(reversed(range(guests))))

    def refuse_at_each_place(self, value):
        for shuns in ([0], [-1], [0, 1], [-1, -1, -1], [0, 0, 2, -1, 4]):
            for place in range(len(shuns)):
                self.refuse_shuns(with_at(shuns, place, value))

    def test_no_list(self):
        for value in NO_LISTS:
            self.refuse_shuns(value)

    def test_no_whole_number_at_any_place(self):
        for value in NO_WHOLE_NUMBERS:
            self.refuse_at_each_place(value)

    def test_a_list_within_itself(self):
        shuns = [0, 1]
        shuns.append(shuns)
        self.refuse_shuns(shuns)

    def test_below_minus_one_at_any_place(self):
        for value in (-2, -3, -100, -(2 ** 64), -(10 ** 40), -HUGE):
            self.refuse_at_each_place(value)

    def test_as_great_as_the_count_of_guests_or_greater_at_any_place(self):
        for guests in range(1, 8):
            for beyond in (0, 1, 2, 100, 2 ** 64, 10 ** 40, HUGE):
                for place in range(guests):
                    self.refuse_shuns(with_at(list(range(guests)), place, guests + beyond))
                    self.refuse_shuns(with_at([-1] * guests, place, guests + beyond))

    def test_the_bad_one_in_a_long_list(self):
        for value in (-2, 60, True, None, "1"):
            for place in (0, 30, 59):
                self.refuse_shuns(with_at(list(range(60)), place, value))

    def test_just_within_is_not_refused(self):
        for guests in range(2, 8):
            for value in (-1, 0, guests - 1):
                for place in range(guests):
                    shuns = with_at([-1] * guests, place, value)
                    self.assertEqual(len(counts(shuns)), guests + 1)
                    self.assertTrue(seated(shuns).shows(shuns))
                    self.assertEqual(number_of(shuns, seating_of(shuns, 0)), 0)
        self.assertEqual(counts([]), [1])
        self.assertEqual(seating_of([], 0), [])
        self.assertEqual(number_of([], []), 0)

    def test_shuns_come_before_what_else_is_bad(self):
        for shuns in (None, (0, 1), "01", [0, 2], [True, 0], [-2, 0], [1.0, 1], [0, None]):
            for number in BAD_NUMBERS:
                self.refuse(BadShuns, seating_of, shuns, number)
            for seating in BAD_SEATINGS:
                self.refuse(BadShuns, number_of, shuns, seating)


class RefusedNumbers(Refusing):
    def refuse_number(self, shuns, number):
        self.refuse(BadNumber, seating_of, shuns, number)

    def test_no_whole_number_and_below_zero_and_very_great(self):
        for shuns in ([], [-1], [0], [0, 1], [1, 1], [0, 1, 2], [-1] * 5, list(range(60)), [3] * 60):
            for number in BAD_NUMBERS:
                self.refuse_number(shuns, number)

    def test_the_count_itself_and_beyond(self):
        for shuns in list(all_short_shuns(4)) + LONG:
            many = counts(shuns)[0]
            for beyond in (0, 1, 2, 1000, 2 ** 64, HUGE):
                self.refuse_number(shuns, many + beyond)
            self.refuse_number(shuns, -1)

    def test_all_but_the_count_of_all_sitting_off_lies_beyond(self):
        self.refuse_number([0, 1, 2], 2)
        self.refuse_number([0, 1, 2], 5)
        self.refuse_number([0, 0, -1], 2)

    def test_zero_where_there_is_no_such_seating(self):
        for guests in (1, 2, 3, 10, 60):
            for seat in {0, guests // 2, guests - 1}:
                self.refuse_number([seat] * guests, 0)

    def test_the_first_and_the_last_are_not_refused(self):
        for shuns in list(all_short_shuns(4)) + LONG:
            many = counts(shuns)[0]
            if many > 0:
                self.assertEqual(len(seating_of(shuns, 0)), len(shuns))
                self.assertEqual(len(seating_of(shuns, many - 1)), len(shuns))


class RefusedSeatings(Refusing):
    def refuse_seating(self, shuns, seating):
        self.refuse(BadSeating, number_of, shuns, seating)

    def good_ones(self):
        for shuns in ([-1], [1, 0], [-1, -1], [0, 1, 2], [-1, -1, -1], [0, 0, 2, -1, 4]):
            for seating in seatings_off_by_trying(shuns):
                yield shuns, seating
        for shuns in LONG:
            if counts(shuns)[0] > 0:
                yield shuns, seated(shuns).seating

    def test_no_list(self):
        for shuns in ([], [-1], [0], [0, 1], [-1, -1], [0, 0], list(range(60))):
            for value in NO_LISTS:
                self.refuse_seating(shuns, value)

    def test_a_good_one_that_is_no_list(self):
        for shuns, seating in self.good_ones():
            self.refuse_seating(shuns, tuple(seating))
            self.refuse_seating(shuns, dict(enumerate(seating)))
            self.refuse_seating(shuns, iter(seating))
            self.refuse_seating(shuns, bytes(seating))
            self.refuse_seating(shuns, [seating])

    def test_too_short_or_too_long(self):
        self.refuse_seating([], [0])
        self.refuse_seating([], [-1])
        self.refuse_seating([], [[]])
        for shuns, seating in self.good_ones():
            guests = len(shuns)
            self.refuse_seating(shuns, [])
            for place in some_places(seating):
                self.refuse_seating(shuns, seating[:place] + seating[place + 1:])
                for seat in (-1, 0, guests - 1, guests, None):
                    self.refuse_seating(shuns, seating[:place] + [seat] + seating[place:])
            for seat in (-1, 0, guests, True, None):
                self.refuse_seating(shuns, seating + [seat])
            self.refuse_seating(shuns, seating + seating)

    def test_no_whole_number_at_any_place(self):
        for shuns, seating in self.good_ones():
            for place in some_places(seating):
                for value in NO_WHOLE_NUMBERS + [float(seating[place]), str(seating[place]), [seating[place]]]:
                    self.refuse_seating(shuns, with_at(seating, place, value))

    def test_true_and_false_in_the_place_of_one_and_zero(self):
        for shuns, seating in self.good_ones():
            for value in (False, True):
                if int(value) in seating:
                    self.refuse_seating(shuns, with_at(seating, seating.index(value), value))

    def test_a_seat_twice(self):
        for shuns, seating in self.good_ones():
            for place in some_places(seating):
                for other in some_places(seating):
                    if other != place:
                        self.refuse_seating(shuns, with_at(seating, place, seating[other]))

    def test_below_zero_or_beyond_the_last(self):
        for shuns, seating in self.good_ones():
            guests = len(shuns)
            for place in some_places(seating):
                for seat in (-1, -guests, -guests - 1, seating[place] - guests, -HUGE):
                    self.refuse_seating(shuns, with_at(seating, place, seat))
                for seat in (guests, guests + 1, seating[place] + guests, 2 ** 64, HUGE):
                    self.refuse_seating(shuns, with_at(seating, place, seat))

    def test_not_all_sit_off_in_every_short_list(self):
        for shuns in all_short_shuns(4):
            good = seatings_off_by_trying(shuns)
            for seating in seatings_off_by_trying([-1] * len(shuns)):
                if seating not in good:
                    self.refuse_seating(shuns, seating)

    def test_one_guest_of_many_on_the_seat_that_they_shun(self):
        for place in (0, 30, 59):
            shuns = with_at([-1] * 60, place, place)
            self.refuse_seating(shuns, list(range(60)))
            shuns = [(k + 1) % 60 for k in range(60)]
            shuns[place] = place
            self.refuse_seating(shuns, list(range(60)))

    def test_any_seating_where_one_seat_is_shunned_by_all(self):
        for guests in (1, 2, 3, 60):
            self.refuse_seating([guests - 1] * guests, list(range(guests)))
            self.refuse_seating([0] * guests, list(reversed(range(guests))))


if __name__ == "__main__":
    unittest.main()
