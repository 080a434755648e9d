"""What is refused: one class for each refusal."""


class SeatError(ValueError):
    pass


class BadShuns(SeatError):
    pass


class BadNumber(SeatError):
    pass


class BadSeating(SeatError):
    pass
