"""The refusals of the program, each of a class of its own."""


class ArmError(ValueError):
    pass


class NoPlate(ArmError):
    pass


class NoCell(ArmError):
    def __init__(self, cell, ask=None):
        # The fields themselves are the words: a number of any length can be borne, as no text is made of it here.
        ArmError.__init__(self, cell, ask)
        self.cell = cell
        self.ask = ask


class NoSpare(ArmError):
    def __init__(self, cell):
        ArmError.__init__(self, cell)
        self.cell = cell


class NoAsk(ArmError):
    pass


class NoOrder(ArmError):
    def __init__(self, ask, other):
        ArmError.__init__(self, ask, other)
        self.ask = ask
        self.other = other


class NoRule(ArmError):
    pass


class TooMany(ArmError):
    pass


class NoLine(ArmError):
    pass


class NoBook(ArmError):
    pass
