"""Cheapest sequences with few additions, or few visited places."""

from abacushead.errors import InvalidLimit
from abacushead.integers import is_whole
from abacushead.shortest import perform, sweep_between


def shortest_within(row, start, goal, *, additions=None, places=None):
    """Return a tuple (cost, sequence) for a cheapest sequence within the limits, None if there is none."""
    sweep = sweep_between(row, start, goal)
    require_limit(additions)
    require_limit(places)
    table = sweep.least_costs()
    # For each end the table has the fewest additions, so no other way to this end keeps to
    # the limits if that one does not.
    ends = [end for end in sweep.ends(table) if is_allowed(sweep, end, additions, places)]
    if not ends:
        return None
    cost, at, carry = min(ends)
    return (cost, perform(row, start, goal, sweep.plan(table, at, carry)))


def require_limit(value):
    """Raise InvalidLimit if a value is neither None nor an integer from 0."""
    if value is not None and (not is_whole(value) or value < 0):
        raise InvalidLimit(value)


def is_allowed(sweep, end, additions, places):
    """Return whether the way to an end of a sweep keeps to both limits."""
    cost, at, carry = end
    if places is not None and at + 1 > places:
        return False
    added = cost - sweep.row.move_cost * sweep.moves(at)
    return additions is None or added <= sweep.row.add_cost * additions
