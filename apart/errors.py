"""The refusals, one class for each, all under ApartError."""


class ApartError(ValueError):
    """Any refusal."""


class NoTelling(ApartError):
    """What was handed in, or its text, is no telling."""


class NoValue(ApartError):
    """The values lack a name of the telling."""


class NoProgram(ApartError):
    """What was handed in is no program."""


class NoRow(ApartError):
    """The row is none that a desk answers."""


class NoName(ApartError):
    """No procedure has the name."""


class NoText(ApartError):
    """The text is no program's; row is the number of the first row that shows it."""

    def __init__(self, row):
        self.row = row
