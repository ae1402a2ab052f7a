"""Rows of places, with the costs of moves and additions."""

from abacushead.errors import InvalidRow
from abacushead.integers import is_place, is_within

MAX_COST = 1000000


class Row:
    """A row of places; it does not change."""

    MIN_BASE = 2
    MAX_BASE = 36

    def __init__(self, base, *, move=1, add=1, first=None, last=None):
        field = invalid_field(base, move, add, first, last)
        if field is not None:
            raise InvalidRow(field)
        self.settings = (base, move, add, first, last)

    def __eq__(self, other):
        return isinstance(other, Row) and self.settings == other.settings

    @property
    def base(self):
        """The base."""
        return self.settings[0]

    @property
    def move_cost(self):
        """The cost of a move."""
        return self.settings[1]

    @property
    def add_cost(self):
        """The cost of an addition."""
        return self.settings[2]

    @property
    def first(self):
        """The first place, None if there is none."""
        return self.settings[3]

    @property
    def last(self):
        """The last place, None if there is none."""
        return self.settings[4]

    def has_place(self, value):
        """Return whether any value is a place of the row."""
        if not is_place(value):
            return False
        if self.first is not None and value < self.first:
            return False
        return self.last is None or value <= self.last


def invalid_field(base, move, add, first, last):
    """Return the name of the first invalid argument of a row, None if all are valid."""
    if not is_within(base, Row.MIN_BASE, Row.MAX_BASE):
        return "base"
    if not is_cost(move):
        return "move"
    if not is_cost(add):
        return "add"
    if not is_end(first):
        return "first"
    if not is_end(last):
        return "last"
    if first is not None and last is not None and last < first:
        return "last"
    return None


def is_cost(value):
    """Return whether any value can be the cost of an operation."""
    return is_within(value, 1, MAX_COST)


def is_end(value):
    """Return whether any value can be the first or the last place of a row."""
    return value is None or is_place(value)
