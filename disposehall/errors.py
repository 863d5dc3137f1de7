"""The refusals of the house, one class for each."""


# One base for all of them, so that an asker can take any refusal at once.
class HallError(ValueError):
    pass


class NoDay(HallError):
    pass


class NoLength(HallError):
    pass


class NoTerm(HallError):
    pass


class TooWide(HallError):
    pass


class NoBook(HallError):
    def __init__(self, row):
        HallError.__init__(self, f"row {row} cannot stand")
        self.row = row


class PutTwice(HallError):
    pass


class HeldTwice(HallError):
    pass


class NoSeries(HallError):
    pass


class RunBack(HallError):
    pass


class Unlike(HallError):
    def __init__(self, name):
        HallError.__init__(self, f"only one of the books has the series {name}")
        self.name = name


class NoRow(HallError):
    pass
