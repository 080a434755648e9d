import inspect
import unittest

from cases import LONG, all_short_shuns, all_sit_off, seatings_off_by_trying
from offseat.counting import counts
from offseat.seating import number_of, seating_of
from offseat.telling import seated

SEVEN = [
    [0, 1, 2, 3, 4, 5, 6], [6, 5, 4, 3, 2, 1, 0], [3] * 6 + [-1], [0] + [6] * 6, [0, 0, 0, 6, 6, 6, -1],
    [1, 1, 2, 2, 3, 3, 4], [5, -1, 5, 4, -1, 4, 4],
]


def some_numbers(many):
    wanted = {0, 1, 2, 3, many // 7, many // 3, many // 2, many // 2 + 1, many * 5 // 6, many - 3, many - 2, many - 1}
    spread = {many * k // 23 + k * k for k in range(23)}
    return sorted(number for number in wanted | spread if 0 <= number < many)


class Numbering(unittest.TestCase):
    def hold_a_seating_off(self, shuns, seating):
        self.assertIs(type(seating), list)
        for seat in seating:
            self.assertIs(type(seat), int)
        self.assertEqual(sorted(seating), list(range(len(shuns))))
        self.assertTrue(all_sit_off(shuns, seating), (shuns, seating))

    def hold_number(self, shuns, number):
        seating = seating_of(shuns, number)
        self.hold_a_seating_off(shuns, seating)
        again = number_of(shuns, seating)
        self.assertIs(type(again), int)
        self.assertEqual(again, number)
        self.assertEqual(seating_of(list(shuns), number), seating)
        return seating

    def hold_seating(self, shuns, seating):
        number = number_of(shuns, seating)
        self.assertEqual(seating_of(shuns, number), seating)
        self.assertEqual(number_of(list(shuns), list(seating)), number)
        return number

    def hold_every_one(self, shuns):
        tried = seatings_off_by_trying(shuns)
        told = [self.hold_number(shuns, number) for number in range(counts(shuns)[0])]
        self.assertEqual(sorted(told), tried, shuns)
        numbers = [self.hold_seating(shuns, seating) for seating in tried]
        self.assertEqual(sorted(numbers), list(range(len(tried))), shuns)

    def test_no_guests(self):
        self.assertEqual(seating_of([], 0), [])
        self.assertEqual(number_of([], []), 0)

    def test_where_there_is_but_one(self):
        self.assertEqual(seating_of([-1], 0), [0])
        self.assertEqual(number_of([-1], [0]), 0)
        self.assertEqual(seating_of([0, 1], 0), [1, 0])
        self.assertEqual(seating_of([1, 0], 0), [0, 1])
        self.assertEqual(number_of([0, -1], [1, 0]), 0)

    def test_every_number_of_every_short_list(self):
        for shuns in all_short_shuns(4):
            self.hold_every_one(shuns)

    def test_every_number_of_some_lists_of_five_and_seven(self):
        for shuns in SEVEN:
            self.hold_every_one(shuns)
        for shuns in ([4, 4, 4, 4, 0], [0, 1, 1, 2, 2], [-1] * 5, [2] * 5, [-1, 3, 3, 0, -1]):
            self.hold_every_one(shuns)

    def test_some_numbers_of_many_guests(self):
        for shuns in LONG:
            numbers = some_numbers(counts(shuns)[0])
            told = {tuple(self.hold_number(shuns, number)) for number in numbers}
            self.assertEqual(len(told), len(numbers))

    def test_seatings_of_many_guests_that_came_another_way(self):
        for shuns in LONG:
            guests = len(shuns)
            turned = [[(k * step + turn) % guests for k in range(guests)] for step in (1, 7, -1) for turn in range(guests)]
            found = [seating for seating in turned if all_sit_off(shuns, seating)
                     and sorted(seating) == list(range(guests))][:12]
            if counts(shuns)[0] > 0:
                found.append(seated(shuns).seating)
            numbers = {self.hold_seating(shuns, seating) for seating in found}
            self.assertEqual(len(numbers), len({tuple(seating) for seating in found}))
            for number in numbers:
                self.assertTrue(0 <= number < counts(shuns)[0])

    def test_many_more_guests(self):
        for shuns in (list(range(150)), [k % 5 for k in range(150)], [3] * 149 + [4]):
            many = counts(shuns)[0]
            for number in (0, many // 3, many - 1):
                self.hold_number(shuns, number)

    def test_asked_again_the_same_is_told(self):
        lists = [[0, 1, 2, 3], [3, 3, -1, 0], [-1] * 4, [1, 1, 1, -1]]
        first = [[seating_of(shuns, number) for number in range(counts(shuns)[0])] for shuns in lists]
        for shuns, told in reversed(list(zip(lists, first))):
            for number in reversed(range(len(told))):
                self.assertEqual(seating_of(shuns, number), told[number])
                self.assertEqual(number_of(shuns, told[number]), number)

    def test_the_arguments_by_name(self):
        self.assertEqual(list(inspect.signature(seating_of).parameters), ["shuns", "number"])
        self.assertEqual(list(inspect.signature(number_of).parameters), ["shuns", "seating"])


if __name__ == "__main__":
    unittest.main()
