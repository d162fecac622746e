"""The refusals of the program, each straight under ThinError."""


class ThinError(ValueError):
    pass


class NoPaper(ThinError):
    def __init__(self, word, number):
        self.word = word
        self.number = number


class NoLine(ThinError):
    def __init__(self, row, word):
        self.row = row
        self.word = word


class TooMany(ThinError):
    pass


class Twice(ThinError):
    pass


class NoPlace(ThinError):
    pass


class NoTie(ThinError):
    pass


class NoRow(ThinError):
    pass
