"""Counting states by distance, and the greatest number within a budget."""

from abacushead.errors import InvalidLimit, LimitExceeded
from abacushead.integers import MAX_PLACE, is_within, power_of
from abacushead.numbers import form_of, sum_of, within_limits
from abacushead.running import operation_cost
from abacushead.sequences import AMOUNTS, OPERATIONS, SHIFTS
from abacushead.shortest import Sweep
from abacushead.states import require_state

MAX_LAYERS = 12
MAX_STATES = 3000
MAX_BUDGET = 1000


def layers(row, start, budget):
    """List the numbers of states at distance 0, 1, .., budget from the start."""
    require_state(row, start)
    require_budget(budget, MAX_LAYERS)
    # What is added to the start is counted in units of a place that no way within the budget passes.
    unit = start[1] - budget
    known = {(0, start[1]): True}
    shells = [[(0, start[1])]]
    for cost in range(1, budget + 1):
        shell = [state for state in states_at(row, unit, shells, cost) if state not in known]
        for state in shell:
            known[state] = True
        if len(known) > MAX_STATES:
            raise LimitExceeded(MAX_STATES)
        shells.append(shell)
    return [len(shell) for shell in shells]


def greatest(row, start, budget):
    """Return the state with the greatest number within the budget."""
    require_state(row, start)
    require_budget(budget, MAX_BUDGET)
    number, position = start
    gain = greatest_gain(row, position, budget)
    total = within_limits(sum_of(row.base, [number, gain]))
    return (total, least_position(row, position, gain, budget))


def require_budget(value, most):
    """Raise InvalidLimit if a value is not an integer from 0 to the greatest budget."""
    if not is_within(value, 0, most):
        raise InvalidLimit(value)


def states_at(row, unit, shells, cost):
    """List, each once, the states that one operation from a nearer shell reaches at this cost."""
    found = {}
    for operation in OPERATIONS:
        before = cost - operation_cost(row, operation)
        if before >= 0:
            for state in states_after(row, unit, shells[before], operation):
                found[state] = True
    return list(found)


def states_after(row, unit, states, operation):
    """List the states after an operation from those states from which it stays within the row."""
    shift = SHIFTS[operation]
    return [(amount + AMOUNTS[operation] * power_of(row.base, place - unit), place + shift)
            for amount, place in states if row.has_place(place + shift)]


def greatest_gain(row, position, budget):
    """Return the greatest number that can be added within the budget."""
    # All additions at one place, the best one, are never worse than additions at several places.
    gain = 0
    worth = 1
    place = position
    while budget >= 0 and row.has_place(place):
        gain = max(gain, budget // row.add_cost * worth)
        worth *= row.base
        place += 1
        budget -= row.move_cost
    return form_of(row.base, gain, position)


def least_position(row, position, gain, budget):
    """Return the least position at which a way that adds the gain can end within the budget."""
    sweep = Sweep(row, gain, position, position)
    ends = []
    for cost, at, carry in sweep.ends(sweep.least_costs()):
        # The cost has the moves back to the position; here the way ends where the budget is used up.
        rest = budget - cost + row.move_cost * at
        if rest >= 0:
            ends.append(position + at - rest // row.move_cost)
    lowest = -MAX_PLACE if row.first is None else row.first
    return max(lowest, min(ends))
