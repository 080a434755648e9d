"""How many seatings there are, by how many guests sit on the seat that they shun."""

from offseat.checking import refuse_bad_shuns


def counts(shuns):
    refuse_bad_shuns(shuns)
    told = exact_counts(chosen_counts(shuns))
    # No more guests sit where they shun than there are shunned seats.
    return told + [0] * (len(shuns) + 1 - len(told))


def shunner_tallies(shuns):
    tallies = {}
    for seat in range(len(shuns)):
        tallies[seat] = 0
    for seat in shuns:
        if seat != -1:
            tallies[seat] += 1
    return tallies


def ways_to_choose(tallies):
    # At k: the ways to choose k guests who each shun another seat, and so can all sit where they shun.
    ways = [1]
    for tally in tallies:
        ways = ways_with_seat(ways, tally)
    return ways


def ways_with_seat(ways, tally):
    # Either nobody is chosen for the seat, or one of those who shun it.
    more = ways + [0]
    for k, way in enumerate(ways):
        more[k + 1] += way * tally
    return more


def ways_without_seat(ways, tally):
    # Undoes ways_with_seat: whatever order the seats came in, any of them can be taken back.
    fewer = []
    way_before = 0
    for way in ways[:-1]:
        way_before = way - way_before * tally
        fewer.append(way_before)
    return fewer


def factorials(top):
    products = [1]
    for factor in range(1, top + 1):
        products.append(products[-1] * factor)
    return products


def chosen_counts(shuns):
    # At k: the seatings with k chosen guests on the seats that they shun, the rest seated anyhow.
    ways = ways_to_choose([tally for tally in shunner_tallies(shuns).values() if tally > 0])
    rest = factorials(len(shuns))
    return [way * rest[len(shuns) - k] for k, way in enumerate(ways)]


def exact_counts(chosen):
    # A seating with j guests on shunned seats is chosen once for each k of those j, so the
    # chosen counts are the coefficients of the exact ones' polynomial at x + 1. Dividing by
    # x + 1 over and over leaves the exact ones as the remainders.
    exact = list(chosen)
    last = len(exact) - 1
    for done in range(last):
        for k in range(last - 1, done - 1, -1):
            exact[k] -= exact[k + 1]
    return exact


def count_off(ways):
    # The first of the exact counts alone: the chosen counts, by turns added and taken away.
    # The factorials come about on the way, as each step multiplies all that came before it.
    guests = len(ways) - 1
    total = 0
    sign = 1
    for k, way in enumerate(ways):
        total = total * (guests + 1 - k) + sign * way
        sign = -sign
    return total
