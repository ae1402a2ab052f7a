"""Sequences of operations: lists of runs (operation, count)."""

from abacushead.errors import InvalidSequence, LimitExceeded
from abacushead.integers import is_whole

MAX_EXPANDED = 5000

# In the order in which the document lists first operations.
OPERATIONS = ("R", "L", "A", "S")

OPPOSITES = {"R": "L", "L": "R", "A": "S", "S": "A"}

# By how much an operation changes the position, and the digit at the position.
SHIFTS = {"R": 1, "L": -1, "A": 0, "S": 0}
AMOUNTS = {"R": 0, "L": 0, "A": 1, "S": -1}


def is_sequence(value):
    """Return whether any value is a sequence."""
    return isinstance(value, list) and wrong_run(value) is None


def joined(*sequences):
    """Return the sequence that performs all of the sequences, one after the other."""
    for sequence in sequences:
        require_sequence(sequence)
    return merged([step for runs in sequences for step in runs])


def operations(sequence):
    """Yield the operations one by one, of the sequence as it is when the iteration begins."""
    require_sequence(sequence)
    for operation, count in list(sequence):
        for done in range(count):
            yield operation


def reversed_of(sequence):
    """Return the sequence that takes everything back."""
    require_sequence(sequence)
    return [(OPPOSITES[operation], count) for operation, count in sequence[::-1]]


def expanded(sequence):
    """Return the text of the operations of a sequence."""
    require_sequence(sequence)
    if sum([count for operation, count in sequence]) > MAX_EXPANDED:
        raise LimitExceeded(MAX_EXPANDED)
    return "".join([operation * count for operation, count in sequence])


def packed(text):
    """Return the sequence of a text of operations."""
    if not isinstance(text, str):
        raise InvalidSequence(None)
    for index, operation in enumerate(text):
        if operation not in OPERATIONS:
            raise InvalidSequence(index)
    return merged([(operation, 1) for operation in text])


def require_sequence(value):
    """Raise InvalidSequence if a value is not a sequence."""
    if not isinstance(value, list):
        raise InvalidSequence(None)
    index = wrong_run(value)
    if index is not None:
        raise InvalidSequence(index)


def wrong_run(values):
    """Return the index of the first value of a list that is no run, or no run there."""
    before = None
    for index, value in enumerate(values):
        if not is_run(value) or value[0] == before:
            return index
        before = value[0]
    return None


def is_run(value):
    """Return whether any value is a run."""
    if not isinstance(value, tuple) or len(value) != 2:
        return False
    operation, count = value
    if not is_whole(count) or count < 1:
        return False
    return isinstance(operation, str) and operation in OPERATIONS


def merged(runs):
    """Return the sequence of runs whose counts may be 0 and whose neighbours may be alike."""
    sequence = []
    for operation, count in runs:
        if sequence and sequence[-1][0] == operation:
            sequence[-1] = (operation, sequence[-1][1] + count)
        elif count > 0:
            sequence.append((operation, count))
    return sequence


def positions_after(position, sequence):
    """List the positions after each run of a valid sequence that begins at a position."""
    positions = []
    for operation, count in sequence:
        position += SHIFTS[operation] * count
        positions.append(position)
    return positions


def additions(sequence, positions):
    """List what each run of a valid sequence adds: its amount and the position after it."""
    return [(AMOUNTS[operation] * count, position)
            for (operation, count), position in zip(sequence, positions)]
