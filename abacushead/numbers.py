"""Numbers: tuples (numerator, exponent) for numerator * base ** exponent."""

from abacushead.errors import InvalidNumber, LimitExceeded
from abacushead.integers import MAX_PLACE, is_place, is_whole, power_of

MAX_DIGITS = 300


def is_number(base, value):
    """Return whether any value is a number."""
    if not isinstance(value, tuple) or len(value) != 2:
        return False
    numerator, exponent = value
    if not is_whole(numerator) or not is_place(exponent):
        return False
    if numerator == 0:
        return exponent == 0
    return numerator % base != 0 and has_few_digits(numerator)


def make_number(base, numerator, exponent):
    """Return the number numerator * base ** exponent in its form."""
    if numerator == 0:
        return (0, 0)
    shortened, factors = without_factors(base, numerator)
    if not has_few_digits(shortened):
        raise LimitExceeded(MAX_DIGITS)
    if not is_place(exponent + factors):
        raise LimitExceeded(MAX_PLACE)
    return (shortened, exponent + factors)


def plus(base, one, other):
    """Return the sum of two numbers."""
    require_numbers(base, [one, other])
    low = min(one[1], other[1])
    return make_number(base, units(base, one, low) + units(base, other, low), low)


def minus(base, one, other):
    """Return the difference of two numbers."""
    require_numbers(base, [one, other])
    low = min(one[1], other[1])
    return make_number(base, units(base, one, low) - units(base, other, low), low)


def scaled(base, number, places):
    """Return the number times base ** places."""
    require_numbers(base, [number])
    numerator, exponent = number
    return make_number(base, numerator, exponent + places)


def floor_at(base, number, place):
    """Return the greatest integer that is at most the number / base ** place."""
    require_numbers(base, [number])
    return units(base, number, place)


def units(base, number, place):
    """Return the floor of a valid number divided by base ** place."""
    numerator, exponent = number
    if exponent < place:
        return numerator // power_of(base, place - exponent)
    return numerator * power_of(base, exponent - place)


def require_numbers(base, values):
    """Raise InvalidNumber for the first of the values that is not a number."""
    for value in values:
        if not is_number(base, value):
            raise InvalidNumber(value)


def has_few_digits(numerator):
    """Return whether an integer has as few decimal digits as a numerator."""
    # The digits are not counted in a text: Python refuses to write very long integers.
    return abs(numerator) < power_of(10, MAX_DIGITS)


def without_factors(base, numerator):
    """Return a numerator other than 0 without its factors base, and how many it had."""
    # Squares of squares come first: a long numerator may have thousands of factors.
    powers = [base]
    while numerator % (powers[-1] * powers[-1]) == 0:
        powers.append(powers[-1] * powers[-1])
    factors = 0
    for power in reversed(powers):
        factors *= 2
        if numerator % power == 0:
            numerator //= power
            factors += 1
    return numerator, factors
