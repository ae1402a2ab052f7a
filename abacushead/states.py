"""States of a row: tuples (number, position)."""

from abacushead.errors import InvalidState
from abacushead.integers import is_place
from abacushead.numbers import is_number, make_number


def is_state(row, value):
    """Return whether any value is a state of the row."""
    if not is_pair(row.base, value):
        return False
    (numerator, exponent), position = value
    if not row.has_place(position):
        return False
    return numerator == 0 or row.first is None or exponent >= row.first


def make_state(row, numerator, position):
    """Return the state with the integer numerator as its number."""
    state = (make_number(row.base, numerator, 0), position)
    require_state(row, state)
    return state


def is_pair(base, value):
    """Return whether any value is a tuple of a number and an integer that a place can be."""
    if not isinstance(value, tuple) or len(value) != 2:
        return False
    number, place = value
    return is_number(base, number) and is_place(place)


def require_state(row, value):
    """Raise InvalidState if a value is not a state of the row."""
    if not is_state(row, value):
        raise InvalidState(value)


def require_states(row, values):
    """Raise InvalidState for the first of the values that is not a state of the row."""
    for value in values:
        require_state(row, value)
