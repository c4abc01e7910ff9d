"""The refusals of the program, each with its fields."""


class DimError(ValueError):
    """Any refusal."""


class BadLine(DimError):
    """Row number `at` of a text is none that may stand at its place."""

    def __init__(self, at):
        self.at = at


class Twice(DimError):
    """The name of a cell or shelf, or the label, `word` stands for a second time."""

    def __init__(self, word):
        self.word = word


class NoLabel(DimError):
    """A go or an if leads to the label `word`, which no row has."""

    def __init__(self, word):
        self.word = word


class Unknown(DimError):
    """Row number `row` of a program uses `word`, which is no cell, or no shelf, of it."""

    def __init__(self, word, row):
        self.word = word
        self.row = row


class Falls(DimError):
    """A way of row number `row` of a program leads to no row."""

    def __init__(self, row):
        self.row = row
