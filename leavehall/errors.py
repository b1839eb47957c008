"""The refusals. Whatever the program refuses is a HallError."""


class HallError(ValueError):
    pass


class NoHall(HallError):
    # The place is None where no single passage is to blame, so 0 must not be taken for "no place".
    def __init__(self, place=None):
        if place is None:
            HallError.__init__(self, "this is no hall")
        else:
            HallError.__init__(self, f"passage {place} is wrong")
        self.place = place


class NoName(HallError):
    pass


class Twice(HallError):
    pass


class TooMany(HallError):
    pass


class NoPassage(HallError):
    pass


class NoWidth(HallError):
    pass


class NoLine(HallError):
    pass
