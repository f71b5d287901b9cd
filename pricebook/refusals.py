"""The refusals: one error class for each number below 0 that a call may answer."""


# -1
class OutOfRange(Exception):
    pass


# -2
class NoBook(Exception):
    pass


# -3
class NoItem(Exception):
    pass


# -4
class NotToBeGone(Exception):
    pass


# -5 of read and add; check tells the place itself, look its line.
class WrongPlace(Exception):
    def __init__(self, line, place, why):
        self.line = line
        self.place = place
        self.why = why


# -6
class TaxHeld(Exception):
    pass


# -7
class NoAmount(Exception):
    pass


# -8
class NoWeight(Exception):
    pass
