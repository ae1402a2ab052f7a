"""Running a sequence on a row."""

from abacushead.errors import OutOfRow
from abacushead.numbers import sum_of, within_limits
from abacushead.sequences import SHIFTS, additions, positions_after, require_sequence
from abacushead.states import require_state


def run(row, state, sequence):
    """Return the state after the sequence."""
    require_state(row, state)
    require_sequence(sequence)
    # Only the last number is limited; on the way it may be of any size.
    number, position = end_of(row, state, sequence)
    return (within_limits(number), position)


def walk(row, state, sequence):
    """Yield the states after each run, of the sequence as it is when the iteration begins."""
    require_state(row, state)
    require_sequence(sequence)
    number, start = state
    positions = positions_after(start, sequence)
    for index, part in enumerate(additions(sequence, positions)):
        if not row.has_place(positions[index]):
            raise OutOfRow(index)
        number = within_limits(sum_of(row.base, [number, part]))
        yield (number, positions[index])


def cost_of(row, sequence):
    """Return the cost of the sequence."""
    require_sequence(sequence)
    return sum([count * operation_cost(row, operation) for operation, count in sequence])


def visited(state, sequence):
    """Return the least and the greatest position on the way."""
    require_sequence(sequence)
    positions = [state[1]] + positions_after(state[1], sequence)
    return (min(positions), max(positions))


def end_of(row, state, steps):
    """Return the state, of any size, after steps (operation, count) whose neighbours may be alike."""
    number, start = state
    positions = positions_after(start, steps)
    for index, position in enumerate(positions):
        if not row.has_place(position):
            raise OutOfRow(index)
    total = sum_of(row.base, [number] + additions(steps, positions))
    return (total, positions[-1] if positions else start)


def operation_cost(row, operation):
    """Return the cost of a single operation."""
    if SHIFTS[operation] != 0:
        return row.move_cost
    return row.add_cost
