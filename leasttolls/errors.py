"""The refusals, one class for each."""


class TollError(ValueError):
    pass


class NotSteady(TollError):
    pass


class TooMuch(TollError):
    pass


class TooLong(TollError):
    pass


class NoMaking(TollError):
    def __init__(self, at=0):
        self.at = at


class NoPaper(TollError):
    def __init__(self, where="paper", at=0):
        self.where = where
        self.at = at


class NoPair(TollError):
    pass


class NoText(TollError):
    pass


class NoRow(TollError):
    pass


class NoName(TollError):
    pass
