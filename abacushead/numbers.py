"""Numbers: tuples (numerator, exponent) for numerator * base ** exponent."""

from abacushead.errors import InvalidNumber, LimitExceeded
from abacushead.integers import MAX_PLACE, is_place, is_whole, power_of

MAX_DIGITS = 300


def is_number(base, value):
    """Return whether any value is a number."""
    if not isinstance(value, tuple) or len(value) != 2:
        return False
    numerator, exponent = value
    if not is_whole(numerator) or not is_place(exponent):
        return False
    if numerator == 0:
        return exponent == 0
    return numerator % base != 0 and has_few_digits(numerator)


def make_number(base, numerator, exponent):
    """Return the number numerator * base ** exponent in its form."""
    return within_limits(form_of(base, numerator, exponent))


def plus(base, one, other):
    """Return the sum of two numbers."""
    require_numbers(base, [one, other])
    return within_limits(sum_of(base, [one, other]))


def minus(base, one, other):
    """Return the difference of two numbers."""
    require_numbers(base, [one, other])
    return within_limits(sum_of(base, [one, negative(other)]))


def scaled(base, number, places):
    """Return the number times base ** places."""
    require_numbers(base, [number])
    numerator, exponent = number
    return make_number(base, numerator, exponent + places)


def floor_at(base, number, place):
    """Return the greatest integer that is at most the number / base ** place."""
    require_numbers(base, [number])
    return units(base, number, place)


def units(base, number, place):
    """Return the floor of a number of any size divided by base ** place."""
    numerator, exponent = number
    if exponent < place:
        return numerator // power_of(base, place - exponent)
    return numerator * power_of(base, exponent - place)


def negative(number):
    """Return the number times -1."""
    numerator, exponent = number
    return (-numerator, exponent)


def moved(number, places):
    """Return the number times base ** places, of any size, not in the form of a number."""
    numerator, exponent = number
    return (numerator, exponent + places)


def form_of(base, numerator, exponent):
    """Return numerator * base ** exponent in the form of a number, of any size."""
    if numerator == 0:
        return (0, 0)
    shortened, factors = without_factors(base, numerator)
    return (shortened, exponent + factors)


def sum_of(base, parts):
    """Return the sum of parts (numerator, exponent) in the form of a number, of any size."""
    amounts = {}
    for numerator, exponent in parts:
        if numerator != 0:
            amounts[exponent] = amounts.get(exponent, 0) + numerator
    place = max(amounts, default=0)
    total = 0
    for exponent in sorted(amounts, reverse=True):
        total = total * power_of(base, place - exponent) + amounts[exponent]
        place = exponent
    return form_of(base, total, place)


def within_limits(number):
    """Return a number in its form, of any size, if it is not beyond the limits."""
    numerator, exponent = number
    if not has_few_digits(numerator):
        raise LimitExceeded(MAX_DIGITS)
    if not is_place(exponent):
        raise LimitExceeded(MAX_PLACE)
    return number


def require_numbers(base, values):
    """Raise InvalidNumber for the first of the values that is not a number."""
    for value in values:
        if not is_number(base, value):
            raise InvalidNumber(value)


def has_few_digits(numerator):
    """Return whether an integer has as few decimal digits as a numerator."""
    # The digits are not counted in a text: Python refuses to write very long integers.
    return abs(numerator) < power_of(10, MAX_DIGITS)


def without_factors(base, numerator):
    """Return a numerator other than 0 without its factors base, and how many it had."""
    # Squares of squares come first: a long numerator may have thousands of factors.
    powers = [base]
    while numerator % (powers[-1] * powers[-1]) == 0:
        powers.append(powers[-1] * powers[-1])
    factors = 0
    for power in reversed(powers):
        factors *= 2
        if numerator % power == 0:
            numerator //= power
            factors += 1
    return numerator, factors
