"""What several modules need to know of integers."""

MAX_PLACE = 1000


def is_whole(value):
    """Return whether any value is an integer; a bool is none."""
    return isinstance(value, int) and not isinstance(value, bool)


def is_within(value, low, high):
    """Return whether any value is an integer from low to high."""
    return is_whole(value) and low <= value <= high


def is_place(value):
    """Return whether any value is an integer that a place can be."""
    return is_within(value, -MAX_PLACE, MAX_PLACE)


def power_of(base, count):
    """Return the product of count copies of the base; count is at least 0."""
    power = 1
    for bit in range(count.bit_length() - 1, -1, -1):
        power *= power
        if (count >> bit) & 1:
            power *= base
    return power
