"""Powers, roots, commuting and conjugation of effects."""

from abacushead.effects import require_effects, require_offset
from abacushead.errors import InvalidLimit
from abacushead.integers import is_place, is_whole, power_of
from abacushead.numbers import form_of, moved, negative, sum_of, within_limits


def power(base, effect, exponent):
    """Return the composition of so many copies of an effect, or of its inverse."""
    require_effects(base, [effect])
    if not is_whole(exponent):
        raise InvalidLimit(exponent)
    number, offset = effect
    require_offset(offset * exponent)
    if exponent < 0:
        factor, places = copies(base, -offset, -exponent)
        number = moved(negative(number), -offset)
    else:
        factor, places = copies(base, offset, exponent)
    numerator, place = number
    return (within_limits(form_of(base, numerator * factor, place + places)), offset * exponent)


def root(base, effect, degree):
    """Return the effect whose power with this degree is the given one, None if there is none."""
    require_effects(base, [effect])
    if not is_whole(degree) or degree < 1:
        raise InvalidLimit(degree)
    number, offset = effect
    if offset % degree != 0:
        return None
    factor, places = copies(base, offset // degree, degree)
    part = quotient(base, moved(number, -places), factor)
    if part is None:
        return None
    return (within_limits(part), offset // degree)


def commutes(base, one, other):
    """Return whether both orders of composition give the same effect."""
    require_effects(base, [one, other])
    forth = sum_of(base, [one[0], moved(other[0], one[1])])
    back = sum_of(base, [other[0], moved(one[0], other[1])])
    return forth == back


def conjugate(base, one, by):
    """Return the composition of the second effect, the first one and the inverse of the second one."""
    require_effects(base, [one, by])
    number, offset = one
    parts = [by[0], moved(number, by[1]), moved(negative(by[0]), offset)]
    return (within_limits(sum_of(base, parts)), offset)


def conjugators(base, one, other):
    """List the offsets of the pairs by which the conjugate of one effect is the other."""
    require_effects(base, [one, other])
    if one[1] != other[1]:
        return []
    if one[1] == 0:
        return shifts_between(one[0], other[0])
    return turns_between(base, one[0], other[0], abs(one[1]))


def copies(base, offset, count):
    """Return the sum of base ** (offset * k) for all k from 0 to count - 1, as (numerator, exponent)."""
    # With offset 0 the count may be far too great for a loop.
    if offset == 0:
        return (count, 0)
    step = power_of(base, abs(offset))
    total = 0
    for copy in range(count):
        total = total * step + 1
    return (total, min(0, offset * (count - 1)))


def quotient(base, number, divisor):
    """Return the number divided by a positive integer, None if no number of any size is that."""
    # A divisor of any power of the base divides the one with as many factors as it has bits.
    places = divisor.bit_length()
    numerator = number[0] * power_of(base, places)
    if numerator % divisor != 0:
        return None
    return form_of(base, numerator // divisor, number[1] - places)


def shifts_between(one, other):
    """List the offsets that are numbers of places by which the other number is shifted."""
    if one[0] != other[0]:
        return []
    # Zero is shifted to itself by all places; the document selects 0.
    shift = other[1] - one[1]
    return [shift] if is_place(shift) else []


def turns_between(base, one, other, size):
    """List the shifts below size after which the numbers differ by a multiple of base ** size - 1."""
    # A conjugate by (number, t) shifts by t places and adds number * (1 - base ** offset). Modulo
    # base ** size - 1, shifting by size places changes nothing, and the base has an inverse.
    modulus = power_of(base, size) - 1
    rest = remainder(base, one, size, modulus)
    wanted = remainder(base, other, size, modulus)
    found = []
    for shift in range(size):
        if rest == wanted:
            found.append(shift)
        rest = rest * base % modulus
    return found


def remainder(base, number, size, modulus):
    """Return the remainder of a number modulo base ** size - 1."""
    numerator, exponent = number
    return numerator * power_of(base, exponent % size) % modulus
