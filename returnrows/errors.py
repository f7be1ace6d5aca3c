"""The errors of the program, one class for each kind of failure."""


class RowError(ValueError):
    """The error above all others; it keeps what it was given."""

    def __init__(self, value):
        self.value = value


class InvalidLetter(RowError):
    """A number is no letter of the rules."""


class InvalidRules(RowError):
    """A word, told by its index, cannot stand where it does."""


class InvalidNumber(RowError):
    """A number is not one of those that are allowed."""


class NotMixed(RowError):
    """The letters do not all lead to all letters."""


class TooMany(RowError):
    """There are more things than are allowed."""


class NothingToUndo(RowError):
    """No call is left that could be taken back."""


class Unreadable(RowError):
    """A text is not the text of anything."""
