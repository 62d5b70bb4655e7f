"""The errors of the package."""


class SameError(ValueError):
    """The base of all errors of the package."""


class InvalidRow(SameError):
    """An argument of a row, a test or a program is wrong; the word tells which."""

    def __init__(self, word):
        self.word = word


class InvalidText(SameError):
    """The line with this number is wrong."""

    def __init__(self, at):
        self.at = at


class NoName(SameError):
    """There is no such name."""

    def __init__(self, name):
        self.name = name


class NoRow(SameError):
    """There is no row with this number."""

    def __init__(self, at):
        self.at = at


class NoItem(SameError):
    """There is no such item."""


class Frozen(SameError):
    """A frozen list cannot be changed in place."""


class Stops(SameError):
    """The row with this number stops."""

    def __init__(self, at):
        self.at = at


class Guarded(SameError):
    """The list of this name is guarded."""

    def __init__(self, name):
        self.name = name


class InvalidCommand(SameError):
    """This is not a command."""
