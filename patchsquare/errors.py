"""The refusals: one class for each, all under SquareError."""


class SquareError(ValueError):
    pass


class NoText(SquareError):
    pass


class TooLong(SquareError):
    pass


class NoInverse(SquareError):
    pass


class NoLabel(SquareError):
    pass


class NoMarks(SquareError):
    pass


class NoSquare(SquareError):
    pass


class NoSign(SquareError):
    def __init__(self, place):
        SquareError.__init__(self, f"the sign at place {place} can't be written")
        self.place = place


class NoMend(SquareError):
    def __init__(self, block):
        SquareError.__init__(self, f"block {block} can't be mended")
        self.block = block


class NoPicture(SquareError):
    def __init__(self, row):
        SquareError.__init__(self, f"row {row} is not one of a picture")
        self.row = row
