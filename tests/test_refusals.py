import fractions
import unittest

from offseat.counting import counts
from offseat.errors import BadShuns


class Unfriendly:
    """Fails whenever it is compared, measured, walked or shown."""

    def fail(self, *args):
        raise RuntimeError("touched")

    __eq__ = __lt__ = __gt__ = __le__ = __ge__ = __len__ = __iter__ = fail
    __getitem__ = __bool__ = __repr__ = __str__ = __index__ = __int__ = fail
    __hash__ = None


NO_LISTS = [
    0, 1, -1, 10 ** 40, True, False, None, 1.0, 1j, "", "0", "01", b"", b"\x00", bytearray(2),
    (), (0,), (0, 1), {}, {0: 0}, set(), {0}, frozenset(), range(0), range(2), iter([0]),
    object(), Unfriendly(), list, len, ValueError(), (seat for seat in [0]),
]

NO_WHOLE_NUMBERS = [
    True, False, None, "", "0", "-1", 0.0, -1.0, 1.5, float("nan"), float("inf"), 0j,
    fractions.Fraction(0), b"0", [], [0], (), (0,), {}, {0: 0}, set(), object(), Unfriendly(),
    int, len,
]


def with_at(shuns, place, value):
    return shuns[:place] + [value] + shuns[place + 1:]


class Refusals(unittest.TestCase):
    def refuse(self, shuns):
        with self.assertRaises(BadShuns):
            counts(shuns)

    def refuse_at_each_place(self, value):
        for shuns in ([0], [-1], [0, 1], [-1, -1, -1], [0, 0, 2, -1, 4]):
            for place in range(len(shuns)):
                self.refuse(with_at(shuns, place, value))

    def test_no_list(self):
        for value in NO_LISTS:
            self.refuse(value)

    def test_no_whole_number_at_any_place(self):
        for value in NO_WHOLE_NUMBERS:
            self.refuse_at_each_place(value)

    def test_a_list_within_itself(self):
        shuns = [0, 1]
        shuns.append(shuns)
        self.refuse(shuns)

    def test_below_minus_one_at_any_place(self):
        for value in (-2, -3, -100, -(2 ** 64), -(10 ** 40), -(10 ** 6000)):
            self.refuse_at_each_place(value)

    def test_as_great_as_the_count_of_guests_or_greater_at_any_place(self):
        for guests in range(1, 8):
            for beyond in (0, 1, 2, 100, 2 ** 64, 10 ** 40, 10 ** 6000):
                for place in range(guests):
                    self.refuse(with_at(list(range(guests)), place, guests + beyond))
                    self.refuse(with_at([-1] * guests, place, guests + beyond))

    def test_the_bad_one_in_a_long_list(self):
        for value in (-2, 60, True, None, "1"):
            for place in (0, 30, 59):
                self.refuse(with_at(list(range(60)), place, value))

    def test_just_within_is_not_refused(self):
        for guests in range(1, 8):
            for value in (-1, 0, guests - 1):
                for place in range(guests):
                    told = counts(with_at([-1] * guests, place, value))
                    self.assertEqual(len(told), guests + 1)
        self.assertEqual(counts([]), [1])


class NothingChangedOrKept(unittest.TestCase):
    SHUNS = ([], [-1], [0], [0, 1, 2], [2, 2, -1, 0], [-1] * 6, [3] * 6, list(range(40)))

    def test_the_shuns_stay_as_they_are(self):
        for shuns in self.SHUNS:
            before = list(shuns)
            counts(shuns)
            self.assertEqual(shuns, before)

    def test_refused_shuns_stay_as_they_are(self):
        for shuns in ([0, 5, 1], [True, 0], [0, 1, -2], [[0], 0]):
            before = list(shuns)
            with self.assertRaises(BadShuns):
                counts(shuns)
            self.assertEqual(shuns, before)

    def test_a_told_list_may_be_changed(self):
        for shuns in self.SHUNS:
            first = counts(shuns)
            kept = list(first)
            first[0] = "changed"
            first.append(7)
            second = counts(shuns)
            self.assertIs(type(second), list)
            self.assertIsNot(first, second)
            self.assertIsNot(second, shuns)
            self.assertEqual(second, kept)

    def test_shuns_changed_between_two_calls_are_read_anew(self):
        shuns = [0, 1, 2]
        told = counts(shuns)
        self.assertEqual(told, [2, 3, 0, 1])
        shuns[0] = -1
        self.assertEqual(told, [2, 3, 0, 1])
        self.assertEqual(counts(shuns), [3, 2, 1, 0])
        shuns.append(-1)
        self.assertEqual(len(counts(shuns)), 5)


if __name__ == "__main__":
    unittest.main()
