"""One of two things told of shuns: a seating in which all sit off, or the seat that all shun."""

from offseat.answers import Barred, Seated
from offseat.checking import refuse_bad_shuns


def seated(shuns):
    refuse_bad_shuns(shuns)
    # At first each guest has the seat of their own number; those who shun it pass theirs round.
    movers = [guest for guest, shun in enumerate(shuns) if shun == guest]
    if len(movers) == 1:
        # One alone has nobody to pass to, and needs somebody who doesn't mind that seat.
        lone = movers[0]
        partners = [guest for guest, shun in enumerate(shuns) if shun != lone]
        if not partners:
            return Barred(lone)
        movers.append(partners[0])
    seating = list(range(len(shuns)))
    for k, guest in enumerate(movers):
        seating[guest] = movers[k - 1]
    return Seated(seating)
