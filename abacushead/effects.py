"""Effects of sequences: tuples (number, offset)."""

from abacushead.errors import InvalidEffect, InvalidState, LimitExceeded
from abacushead.integers import MAX_PLACE, is_place
from abacushead.numbers import make_number, moved, sum_of, within_limits
from abacushead.sequences import additions, positions_after, require_sequence
from abacushead.states import is_pair


def is_effect(base, value):
    """Return whether any value is an effect."""
    return is_pair(base, value)


def effect_of(base, sequence):
    """Return the effect of a sequence."""
    require_sequence(sequence)
    offsets = positions_after(0, sequence)
    for offset in offsets:
        require_offset(offset)
    number = within_limits(sum_of(base, additions(sequence, offsets)))
    return (number, offsets[-1] if offsets else 0)


def composed(base, *effects):
    """Return the composition of all effects, in order."""
    require_effects(base, effects)
    parts = []
    offset = 0
    for number, shift in effects:
        parts.append(moved(number, offset))
        offset += shift
    require_offset(offset)
    return (within_limits(sum_of(base, parts)), offset)


def inverse(base, effect):
    """Return the inverse of an effect."""
    require_effects(base, [effect])
    (numerator, exponent), offset = effect
    return (make_number(base, -numerator, exponent - offset), -offset)


def changed(base, state, effect):
    """Return the tuple (number, position) to which an effect changes a state."""
    if not is_pair(base, state):
        raise InvalidState(state)
    require_effects(base, [effect])
    start, position = state
    number, offset = effect
    require_offset(position + offset)
    total = sum_of(base, [start, moved(number, position)])
    return (within_limits(total), position + offset)


def require_effects(base, values):
    """Raise InvalidEffect for the first of the values that is not an effect."""
    for value in values:
        if not is_effect(base, value):
            raise InvalidEffect(value)


def require_offset(value):
    """Raise LimitExceeded if an integer is beyond the limits of offsets and positions."""
    if not is_place(value):
        raise LimitExceeded(MAX_PLACE)
