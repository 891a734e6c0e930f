"""The refusals of the program, one class for each."""


class MostError(ValueError):
    pass


class NoWeb(MostError):
    pass


class NoStand(MostError):
    pass


class TooLong(MostError):
    pass


class NoOrder(MostError):
    pass


class TooMuch(MostError):
    pass


class NoRest(MostError):
    pass


class NoPeople(MostError):
    pass


class NoText(MostError):

    def __init__(self, line):
        self.line = line


class NoRow(MostError):
    pass
