"""What is told of shuns: a seating in which all sit off, or what bars any."""

from offseat.checking import are_shuns, is_seating_off, is_whole_number


class Answer:
    pass


class Seated(Answer):
    def __init__(self, seating):
        self.seating = list(seating)

    def shows(self, shuns):
        return are_shuns(shuns) and is_seating_off(self.seating, shuns)


class Barred(Answer):
    def __init__(self, seat):
        self.seat = seat

    def shows(self, shuns):
        if not are_shuns(shuns) or not is_whole_number(self.seat):
            return False
        # Only a seat that is there bars: not -1, though all may hold it, and none where no guests are.
        is_there = self.seat >= 0 and self.seat < len(shuns)
        return is_there and all([shun == self.seat for shun in shuns])
