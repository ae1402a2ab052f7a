"""The errors of the program.

They pass no message on: their arguments may be any values, also integers
that are too long to be displayed.
"""


class HeadError(Exception):
    """The base class of the errors that name an invalid value."""


class InvalidRow(HeadError):
    """An argument of a row is invalid."""

    def __init__(self, field):
        self.field = field


class InvalidNumber(HeadError):
    """A value is not a number."""

    def __init__(self, value):
        self.value = value


class InvalidState(HeadError):
    """A value is not a state."""

    def __init__(self, value):
        self.value = value


class InvalidSequence(HeadError):
    """A value is not a sequence."""

    def __init__(self, index):
        self.index = index


class InvalidEffect(HeadError):
    """A value is not an effect."""

    def __init__(self, value):
        self.value = value


class InvalidTarget(HeadError):
    """A value is not a plan or a target."""

    def __init__(self, value):
        self.value = value


class InvalidText(HeadError):
    """A value is not the text of what it should be."""

    def __init__(self, value):
        self.value = value


class InvalidCommand(HeadError):
    """A command of the console is invalid."""

    def __init__(self, word):
        self.word = word


class OutOfRow(IndexError):
    """An operation leaves the row."""

    def __init__(self, index):
        self.index = index


class InvalidLimit(ValueError):
    """A limit, a degree, an exponent or a budget is invalid."""

    def __init__(self, value):
        self.value = value


class LimitExceeded(OverflowError):
    """A result is beyond a limit."""

    def __init__(self, limit):
        self.limit = limit


class UnknownName(KeyError):
    """A name is unknown."""

    def __init__(self, name):
        self.name = name


class NothingToUndo(LookupError):
    """A user has no operation in the log."""

    def __init__(self, user):
        self.user = user


class OverBudget(RuntimeError):
    """The budget does not suffice for an operation."""

    def __init__(self, missing):
        self.missing = missing


class GoalLost(ArithmeticError):
    """An operation would lose the goal."""

    def __init__(self, missing):
        self.missing = missing
