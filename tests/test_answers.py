import inspect
import itertools
import unittest

from cases import LONG, NO_LISTS, NO_WHOLE_NUMBERS, all_shuns, all_short_shuns, all_sit_off, with_at
from offseat.answers import Answer, Barred, Seated
from offseat.telling import seated

HUGE = 10 ** 6000


class TheClasses(unittest.TestCase):
    def test_both_stand_straight_under_answer(self):
        self.assertEqual(Seated.__bases__, (Answer,))
        self.assertEqual(Barred.__bases__, (Answer,))

    def test_fields_and_arguments(self):
        self.assertEqual(Seated(seating=[1, 0]).seating, [1, 0])
        self.assertEqual(Barred(seat=3).seat, 3)
        self.assertEqual(vars(Seated([2, 5])), {"seating": [2, 5]})
        self.assertEqual(vars(Barred(-4)), {"seat": -4})
        for kind in (Seated, Barred):
            self.assertEqual(list(inspect.signature(kind.shows).parameters), ["self", "shuns"])


class Showing(unittest.TestCase):
    def hold(self, answer, shuns, expected):
        self.assertIs(answer.shows(shuns), expected, (vars(answer), shuns))


class ToldAnswers(Showing):
    def due(self, answer, shuns):
        if isinstance(answer, Barred):
            return len(shuns) > 0 and shuns == [answer.seat] * len(shuns) and answer.seat in range(len(shuns))
        return sorted(answer.seating) == list(range(len(shuns))) and all_sit_off(shuns, answer.seating)

    def test_of_their_own_shuns(self):
        for shuns in itertools.chain(all_short_shuns(4), LONG):
            self.hold(seated(shuns), shuns, True)

    def test_of_other_shuns(self):
        lists = list(all_short_shuns(3))
        for shuns in lists:
            answer = seated(shuns)
            for others in lists:
                self.hold(answer, others, self.due(answer, others))

    def test_of_other_long_shuns(self):
        for shuns in LONG:
            answer = seated(shuns)
            for others in LONG:
                self.hold(answer, others, self.due(answer, others))


class SeatedByHand(Showing):
    def test_every_short_list_against_all_short_shuns(self):
        for guests in range(4):
            for seating in itertools.chain.from_iterable(
                    itertools.product(range(-1, guests + 1), repeat=length) for length in range(guests + 2)):
                is_seating = sorted(seating) == list(range(guests))
                for shuns in all_shuns(guests):
                    self.hold(Seated(list(seating)), shuns, is_seating and all_sit_off(shuns, seating))

    def test_two_seats_exchanged(self):
        shuns = list(range(60))
        turned = shuns[1:] + shuns[:1]
        self.hold(Seated(turned), shuns, True)
        for one, other, expected in ((0, 1, False), (0, 2, True), (58, 59, False), (10, 40, True), (59, 0, False)):
            seating = list(turned)
            seating[one], seating[other] = seating[other], seating[one]
            self.hold(Seated(seating), shuns, expected)

    def test_one_left_out_twice_too_many_or_beyond(self):
        for shuns in ([-1, -1, -1], [0, 1, 2], [-1] * 60, list(range(60))):
            guests = len(shuns)
            good = list(range(1, guests)) + [0]
            self.hold(Seated(good), shuns, True)
            self.hold(Seated([]), shuns, False)
            self.hold(Seated(good + good), shuns, False)
            for place in (0, guests // 2, guests - 1):
                self.hold(Seated(good[:place] + good[place + 1:]), shuns, False)
                self.hold(Seated(with_at(good, place, good[place - 1])), shuns, False)
                for seat in (-1, 0, guests - 1, guests):
                    self.hold(Seated(good[:place] + [seat] + good[place:]), shuns, False)
                for seat in (-1, -guests, good[place] - guests, guests, good[place] + guests, HUGE, -HUGE):
                    self.hold(Seated(with_at(good, place, seat)), shuns, False)
            self.hold(Seated(good + [guests]), shuns, False)

    def test_of_another_count_of_guests(self):
        self.hold(Seated([]), [], True)
        self.hold(Seated([0]), [], False)
        self.hold(Seated([]), [-1], False)
        self.hold(Seated([1, 0]), [-1], False)
        self.hold(Seated([1, 0]), [-1, -1, -1], False)
        self.hold(Seated(list(range(60))), [-1] * 59, False)
        self.hold(Seated(list(range(60))), [-1] * 61, False)

    def test_where_all_shun_one_seat(self):
        for seating in itertools.permutations(range(4)):
            for seat in range(4):
                self.hold(Seated(list(seating)), [seat] * 4, False)

    def test_the_field_as_it_stands_then(self):
        shuns = [0, 1, 2]
        answer = Seated([1, 2, 0])
        self.hold(answer, shuns, True)
        answer.seating = [0, 1, 2]
        self.hold(answer, shuns, False)
        answer.seating = [2, 0, 1]
        self.hold(answer, shuns, True)
        answer.seating[0] = 0
        self.hold(answer, shuns, False)
        answer.seating[0] = 2
        answer.seating.append(3)
        self.hold(answer, shuns, False)
        answer.seating.pop()
        self.hold(answer, shuns, True)

    def test_a_field_of_another_kind_shows_nothing(self):
        answer = Seated([])
        for value in NO_LISTS:
            answer.seating = value
            self.assertIs(answer.shows([]), False)
            self.assertIs(answer.shows([-1, -1]), False)
        for value in NO_WHOLE_NUMBERS:
            answer.seating = [1, value]
            self.assertIs(answer.shows([-1, -1]), False)


class BarredByHand(Showing):
    def test_every_seat_against_all_short_shuns(self):
        for shuns in all_short_shuns(4):
            for seat in range(-3, 7):
                expected = shuns != [] and seat >= 0 and all(shun == seat for shun in shuns)
                self.hold(Barred(seat), shuns, expected)

    def test_many_guests(self):
        for seat in (0, 30, 59):
            self.hold(Barred(seat), [seat] * 60, True)
            for other in (-1, seat - 1, seat + 1, seat - 60, seat + 60, -2, 60, HUGE, -HUGE):
                self.hold(Barred(other), [seat] * 60, False)
            for place in (0, 30, 59):
                self.hold(Barred(seat), with_at([seat] * 60, place, -1), False)
                self.hold(Barred(seat), with_at([seat] * 60, place, 17), False)
                self.hold(Barred(seat), with_at([-1] * 60, place, seat), False)
            self.hold(Barred(seat), [17] * 60, False)

    def test_minus_one_where_all_shun_none(self):
        for guests in (0, 1, 2, 60):
            self.hold(Barred(-1), [-1] * guests, False)

    def test_any_seat_where_there_are_no_guests(self):
        for seat in (-HUGE, -2, -1, 0, 1, 2, HUGE):
            self.hold(Barred(seat), [], False)

    def test_the_field_as_it_stands_then(self):
        answer = Barred(1)
        self.hold(answer, [1, 1], True)
        self.hold(answer, [0, 0], False)
        answer.seat = 0
        self.hold(answer, [1, 1], False)
        self.hold(answer, [0, 0], True)
        answer.seat = -1
        self.hold(answer, [-1, -1], False)

    def test_a_field_of_another_kind_shows_nothing(self):
        answer = Barred(0)
        for value in NO_WHOLE_NUMBERS:
            answer.seat = value
            self.assertIs(answer.shows([0]), False)
            self.assertIs(answer.shows([1, 1]), False)
            self.assertIs(answer.shows([]), False)


if __name__ == "__main__":
    unittest.main()
