"""What each first operation costs in the end."""

from abacushead.numbers import sum_of
from abacushead.running import operation_cost
from abacushead.sequences import AMOUNTS, OPERATIONS, SHIFTS
from abacushead.shortest import distance, distance_of_any


def slacks(row, start, goal):
    """Return a dict from each operation that stays within the row to its slack."""
    least = distance(row, start, goal)
    found = {}
    for operation in OPERATIONS:
        position = start[1] + SHIFTS[operation]
        if row.has_place(position):
            number = sum_of(row.base, [start[0], (AMOUNTS[operation], position)])
            # The number after the operation may be of any size, so it is no state for distance.
            rest = distance_of_any(row, (number, position), goal)
            found[operation] = operation_cost(row, operation) + rest - least
    return found


def first_operations(row, start, goal):
    """Return the text of the operations with slack 0."""
    found = slacks(row, start, goal)
    return "".join([operation for operation in found if found[operation] == 0])
