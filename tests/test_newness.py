import unittest

from cases import LONG, all_short_shuns
from offseat.answers import Barred, Seated
from offseat.counting import counts
from offseat.errors import BadNumber, BadSeating, BadShuns
from offseat.seating import number_of, seating_of
from offseat.telling import seated

SHUNS = list(all_short_shuns(3)) + [[2, 2, -1, 0], [-1] * 6, [3] * 6, list(range(40))] + LONG


class NothingHandedInIsChanged(unittest.TestCase):
    def test_shuns_and_seatings_stay_as_they_are(self):
        for shuns in SHUNS:
            before = list(shuns)
            many = counts(shuns)[0]
            self.assertEqual(shuns, before)
            answer = seated(shuns)
            self.assertEqual(shuns, before)
            answer.shows(shuns)
            self.assertEqual(shuns, before)
            if many > 0:
                seating = seating_of(shuns, many // 2)
                self.assertEqual(shuns, before)
                same = list(seating)
                number_of(shuns, seating)
                self.assertEqual(shuns, before)
                self.assertEqual(seating, same)

    def test_what_is_refused_stays_as_it_is(self):
        for shuns in ([0, 5, 1], [True, 0], [0, 1, -2], [[0], 0]):
            before = list(shuns)
            seating = list(range(len(shuns)))
            for ask in (counts, seated, lambda shuns: seating_of(shuns, 0), lambda shuns: number_of(shuns, seating)):
                with self.assertRaises(BadShuns):
                    ask(shuns)
                self.assertEqual(shuns, before)
            self.assertEqual(seating, list(range(len(shuns))))
        shuns = [0, 1, 2]
        with self.assertRaises(BadNumber):
            seating_of(shuns, 2)
        for seating in ([0, 1, 2], [1, 1, 0], [1, 2], [1, 2, 3], [1, 2, None]):
            before = list(seating)
            with self.assertRaises(BadSeating):
                number_of(shuns, seating)
            self.assertEqual(seating, before)
        self.assertEqual(shuns, [0, 1, 2])

    def test_shows_changes_nothing(self):
        for answer in (Seated([1, 2, 0]), Seated([0, 0]), Seated([]), Barred(0), Barred(-1)):
            fields = {name: list(value) if isinstance(value, list) else value for name, value in vars(answer).items()}
            for shuns in ([], [0], [0, 0], [0, 1, 2], [-1, -1, -1]):
                before = list(shuns)
                first = answer.shows(shuns)
                self.assertEqual(answer.shows(shuns), first)
                self.assertEqual(shuns, before)
                self.assertEqual(vars(answer), fields)


class WhatIsToldIsNew(unittest.TestCase):
    def told_anew(self, ask):
        first = ask()
        kept = list(first)
        first.append(7)
        first[0] = "changed"
        second = ask()
        self.assertIs(type(second), list)
        self.assertIsNot(second, first)
        self.assertEqual(second, kept)

    def test_told_lists_may_be_changed(self):
        for shuns in SHUNS:
            self.told_anew(lambda: counts(shuns))
            many = counts(shuns)[0]
            for number in {0, many // 2, many - 1}:
                if many > 0:
                    self.told_anew(lambda: seating_of(shuns, number))

    def test_the_list_of_a_told_answer_may_be_changed(self):
        for shuns in SHUNS:
            first = seated(shuns)
            second = seated(shuns)
            self.assertIsNot(first, second)
            if isinstance(first, Seated):
                self.assertIsNot(first.seating, second.seating)
                self.told_anew(lambda: seated(shuns).seating)
            else:
                first.seat = "changed"
                self.assertEqual(seated(shuns).seat, second.seat)

    def test_what_is_told_is_never_what_was_handed_in(self):
        for shuns in SHUNS:
            self.assertIsNot(counts(shuns), shuns)
            if counts(shuns)[0] > 0:
                self.assertIsNot(seating_of(shuns, 0), shuns)
                self.assertIsNot(seated(shuns).seating, shuns)


class NothingIsKept(unittest.TestCase):
    def test_shuns_changed_between_two_calls_are_read_anew(self):
        shuns = [0, 1, 2]
        told = counts(shuns)
        seating = seating_of(shuns, 1)
        answer = seated(shuns)
        kept = (list(told), list(seating), list(answer.seating))
        self.assertEqual(told, [2, 3, 0, 1])
        shuns[0] = -1
        self.assertEqual((told, seating, answer.seating), kept)
        self.assertEqual(counts(shuns), [3, 2, 1, 0])
        self.assertEqual(len({tuple(seating_of(shuns, number)) for number in range(3)}), 3)
        shuns[:] = [1, 1, 1]
        self.assertEqual((told, seating, answer.seating), kept)
        self.assertIsInstance(seated(shuns), Barred)
        self.assertFalse(answer.shows(shuns))
        shuns[:] = []
        self.assertEqual((told, seating, answer.seating), kept)
        self.assertEqual(seating_of(shuns, 0), [])

    def test_a_seating_changed_behind_its_number_is_read_anew(self):
        shuns = [-1, -1, -1]
        seating = [0, 1, 2]
        number = number_of(shuns, seating)
        seating[0], seating[2] = seating[2], seating[0]
        self.assertNotEqual(number_of(shuns, seating), number)
        self.assertEqual(seating_of(shuns, number), [0, 1, 2])

    def test_a_list_from_which_an_answer_was_made_may_be_changed(self):
        seating = [1, 2, 0]
        answer = Seated(seating)
        self.assertIsNot(answer.seating, seating)
        seating[0] = 0
        seating.append(3)
        self.assertEqual(answer.seating, [1, 2, 0])
        self.assertTrue(answer.shows([0, 1, 2]))
        answer.seating.append(3)
        self.assertEqual(seating, [0, 2, 0, 3])


if __name__ == "__main__":
    unittest.main()
