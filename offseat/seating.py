"""The seatings in which all sit off, each by its number."""

from offseat.checking import is_seating_off, is_whole_number, refuse_bad_shuns
from offseat.counting import count_off, shunner_tallies, ways_to_choose, ways_with_seat, ways_without_seat
from offseat.errors import BadNumber, BadSeating


class Table:
    # Guests sit down one after another, so the numbers follow the seatings in the order of
    # lists. How many seatings begin alike hangs only on how many of the guests who still stand
    # shun each free seat, so they are counted without being walked.

    def __init__(self, shuns):
        self.tallies = shunner_tallies(shuns)
        self.ways = ways_to_choose(list(self.tallies.values()))

    def call_guest(self, shun):
        if shun in self.tallies:
            tally = self.tallies[shun]
            self.ways = ways_with_seat(ways_without_seat(self.ways, tally), tally - 1)
            self.tallies[shun] = tally - 1

    def first_numbers(self, shun):
        # For each seat that the called guest may take: how many seatings come before it is taken.
        # Seats that equally many shun leave equally many seatings, so each tally is counted once.
        behind = {}
        firsts = {}
        first = 0
        for seat, tally in self.tallies.items():
            if seat != shun:
                if tally not in behind:
                    behind[tally] = count_off(ways_without_seat(self.ways, tally))
                firsts[seat] = first
                first += behind[tally]
        return firsts

    def fill(self, seat):
        self.ways = ways_without_seat(self.ways, self.tallies.pop(seat))


def seating_of(shuns, number):
    refuse_bad_shuns(shuns)
    table = Table(shuns)
    if not is_whole_number(number) or number < 0 or number >= count_off(table.ways):
        raise BadNumber("the number must be a whole one from 0 to one less than there are seatings")
    seating = []
    left = number
    for shun in shuns:
        table.call_guest(shun)
        firsts = table.first_numbers(shun)
        # The last of them: a seat that leaves no seating at all begins where the one behind it does.
        taken = [seat for seat, first in firsts.items() if first <= left][-1]
        left -= firsts[taken]
        table.fill(taken)
        seating.append(taken)
    return seating


def number_of(shuns, seating):
    refuse_bad_shuns(shuns)
    if not is_seating_off(seating, shuns):
        raise BadSeating("the seating must have each seat once, and nobody on the seat that they shun")
    table = Table(shuns)
    number = 0
    for shun, taken in zip(shuns, seating):
        table.call_guest(shun)
        number += table.first_numbers(shun)[taken]
        table.fill(taken)
    return number
