import itertools
import math
import unittest

from cases import LONG, all_shuns
from offseat.counting import counts


def counted_by_trying(shuns, seatings):
    told = [0] * (len(shuns) + 1)
    for seating in seatings:
        told[sum(map(int.__eq__, shuns, seating))] += 1
    return told


def derangements(guests):
    before, now = 1, 0
    for k in range(1, guests + 1):
        before, now = now, k * (now + before)
    return before


class Counts(unittest.TestCase):
    def test_no_guests_have_one_seating(self):
        self.assertEqual(counts([]), [1])

    def test_a_few_by_hand(self):
        self.assertEqual(counts([0]), [0, 1])
        self.assertEqual(counts([-1]), [1, 0])
        self.assertEqual(counts([0, 1]), [1, 0, 1])
        self.assertEqual(counts([1, 1]), [0, 2, 0])
        self.assertEqual(counts([0, 1, 2]), [2, 3, 0, 1])
        self.assertEqual(counts([0, 0, -1]), [2, 4, 0, 0])

    def test_every_list_of_few_guests_against_trying_all_seatings(self):
        for guests in range(6):
            seatings = list(itertools.permutations(range(guests)))
            for shuns in all_shuns(guests):
                self.assertEqual(counts(shuns), counted_by_trying(shuns, seatings), shuns)

    def test_some_lists_of_seven_against_trying_all_seatings(self):
        seatings = list(itertools.permutations(range(7)))
        for shuns in (
            [0, 1, 2, 3, 4, 5, 6], [6, 5, 4, 3, 2, 1, 0], [3] * 7, [-1] * 7, [0, 0, 0, 6, 6, 6, -1],
            [1, 1, 2, 2, 3, 3, 4], [-1, -1, -1, 6, 6, 5, 0], [0, 6, 0, 6, 0, 6, 0], [5, -1, 5, 4, -1, 4, 4],
        ):
            self.assertEqual(counts(shuns), counted_by_trying(shuns, seatings), shuns)

    def test_one_number_more_than_guests_all_whole_and_none_below_zero(self):
        for shuns in LONG:
            told = counts(shuns)
            self.assertIs(type(told), list)
            self.assertEqual(len(told), len(shuns) + 1)
            for number in told:
                self.assertIs(type(number), int)
                self.assertGreaterEqual(number, 0)

    def test_together_they_are_all_seatings(self):
        for shuns in LONG:
            self.assertEqual(sum(counts(shuns)), math.factorial(len(shuns)))

    def test_on_the_average_each_who_shuns_sits_there_in_one_of_so_many(self):
        for shuns in LONG:
            sitting = sum(k * number for k, number in enumerate(counts(shuns)))
            shunning = sum(1 for seat in shuns if seat != -1)
            self.assertEqual(sitting, shunning * math.factorial(len(shuns) - 1))

    def test_each_another_seat(self):
        for guests in list(range(12)) + [60, 61, 150]:
            expected = [math.comb(guests, k) * derangements(guests - k) for k in range(guests + 1)]
            self.assertEqual(counts(list(range(guests))), expected)
            self.assertEqual(counts([(k + 3) % guests for k in range(guests)]), expected)

    def test_all_of_one_seat(self):
        for guests in (1, 2, 3, 10, 60, 200):
            for seat in (0, guests // 2, guests - 1):
                expected = [0, math.factorial(guests)] + [0] * (guests - 1)
                self.assertEqual(counts([seat] * guests), expected)

    def test_all_of_none(self):
        for guests in (0, 1, 2, 10, 60, 200):
            self.assertEqual(counts([-1] * guests), [math.factorial(guests)] + [0] * guests)

    def test_one_guest_alone_shuns(self):
        for guests in (1, 2, 9, 60):
            for place in (0, guests // 2, guests - 1):
                shuns = [-1] * guests
                shuns[place] = guests - 1
                there = math.factorial(guests - 1)
                expected = [math.factorial(guests) - there, there] + [0] * (guests - 1)
                self.assertEqual(counts(shuns), expected)

    def test_two_seats_shunned_by_many(self):
        for first, second, free in ((1, 1, 0), (2, 3, 1), (30, 30, 0), (40, 15, 5), (1, 58, 1)):
            guests = first + second + free
            shuns = [0] * first + [-1] * free + [guests - 1] * second
            rest = math.factorial(guests - 2)
            both = first * second * rest
            either = (first + second) * (guests - 1) * rest - 2 * both
            none = math.factorial(guests) - either - both
            self.assertEqual(counts(shuns), [none, either, both] + [0] * (guests - 2))

    def test_neither_the_order_of_guests_nor_the_names_of_seats_matter(self):
        for shuns in LONG:
            told = counts(shuns)
            last = len(shuns) - 1
            self.assertEqual(counts(shuns[::-1]), told)
            self.assertEqual(counts([seat if seat == -1 else last - seat for seat in shuns]), told)

    def test_many_more_guests(self):
        guests = 500
        told = counts(list(range(guests)))
        self.assertEqual(told[0], derangements(guests))
        self.assertEqual(told[guests - 1:], [0, 1])
        self.assertEqual(sum(told), math.factorial(guests))


def freed(shuns, guest):
    return shuns[:guest] + [-1] + shuns[guest + 1:]


def others_alone(shuns, guest):
    gone = shuns[guest]
    others = []
    for seat in shuns[:guest] + shuns[guest + 1:]:
        if seat == gone:
            others.append(-1)
        else:
            others.append(seat - 1 if seat > gone else seat)
    return others


class AGuestFreed(unittest.TestCase):
    def hold(self, shuns, guest):
        others = counts(others_alone(shuns, guest))
        less = others + [0]
        more = [0] + others
        expected = [count - less[k] + more[k] for k, count in enumerate(counts(freed(shuns, guest)))]
        self.assertEqual(counts(shuns), expected, (shuns, guest))

    def hold_for_each_who_shuns(self, shuns):
        for guest, seat in enumerate(shuns):
            if seat != -1:
                self.hold(shuns, guest)

    def test_every_short_list(self):
        for guests in range(1, 6):
            for shuns in all_shuns(guests):
                self.hold_for_each_who_shuns(shuns)

    def test_long_lists(self):
        for shuns in LONG:
            self.hold_for_each_who_shuns(shuns)


if __name__ == "__main__":
    unittest.main()
