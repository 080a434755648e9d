"""Shuns, and what is none, for the tests of the whole program."""

import fractions
import itertools


def all_shuns(guests):
    return (list(shuns) for shuns in itertools.product(range(-1, guests), repeat=guests))


def all_short_shuns(most):
    return itertools.chain.from_iterable(all_shuns(guests) for guests in range(most + 1))


def all_sit_off(shuns, seating):
    return all(shun != seat for shun, seat in zip(shuns, seating))


def seatings_off_by_trying(shuns):
    seatings = itertools.permutations(range(len(shuns)))
    return [list(seating) for seating in seatings if all_sit_off(shuns, seating)]


def with_at(values, place, value):
    return values[:place] + [value] + values[place + 1:]


def some_places(values):
    return sorted({0, len(values) // 2, len(values) - 1}) if values else []


# Lists of some sixty guests; in the last of them, and in [7] * 60, no seating has all sit off.
LONG = [
    list(range(60)),
    list(reversed(range(61))),
    [7] * 60,
    [-1] * 62,
    [-1] * 59 + [59],
    [0] + [-1] * 59,
    [7] * 59 + [-1],
    [-1] + [0] * 59,
    [7] * 7 + [8] + [7] * 52,
    [59] * 59 + [0],
    [k % 2 for k in range(60)],
    [k % 3 for k in range(60)],
    [k % 7 - 1 for k in range(63)],
    [(k * k) % 60 for k in range(60)],
    [59] * 20 + [0] * 20 + [-1] * 10 + list(range(10, 20)),
    [max(-1, k - 30) for k in range(60)],
    [(k + 1) % 60 for k in range(60)],
    [59] * 60,
]


class Unfriendly:
    """Fails whenever it is compared, measured, walked or shown."""

    def fail(self, *args):
        raise RuntimeError("touched")

    __eq__ = __lt__ = __gt__ = __le__ = __ge__ = __len__ = __iter__ = fail
    __getitem__ = __bool__ = __repr__ = __str__ = __index__ = __int__ = fail
    __hash__ = None


NO_LISTS = [
    0, 1, -1, 10 ** 40, True, False, None, 1.0, 1j, "", "0", "01", b"", b"\x00", bytearray(2),
    (), (0,), (0, 1), (1, 0), {}, {0: 0}, {0: 1, 1: 0}, set(), {0}, frozenset(), range(0), range(2),
    iter([0]), object(), Unfriendly(), list, len, ValueError(), (seat for seat in [0]),
]

NO_WHOLE_NUMBERS = [
    True, False, None, "", "0", "-1", 0.0, -1.0, 1.0, 1.5, float("nan"), float("inf"), 0j,
    fractions.Fraction(0), b"0", [], [0], (), (0,), {}, {0: 0}, set(), object(), Unfriendly(),
    int, len,
]
