"""Tables that show that nothing is cheaper, and their checker."""

from abacushead.errors import InvalidLimit
from abacushead.integers import is_whole
from abacushead.shortest import sweep_between


def table_range(row, start, goal):
    """Return the first and the last place of the tables as a tuple."""
    sweep = sweep_between(row, start, goal)
    return (sweep.low, sweep.low + len(sweep.floors) - 1)


def make_table(row, start, goal):
    """Return a table that is valid for the distance."""
    return sweep_between(row, start, goal).least_costs()


def check_table(row, start, goal, bound, value):
    """Return whether any value is a valid table for the bound."""
    sweep = sweep_between(row, start, goal)
    if not is_whole(bound):
        raise InvalidLimit(bound)
    if not is_table(value, len(sweep.floors)):
        return False
    if value[0][0] is None or value[0][0] > 0:
        return False
    if not all([are_steps_kept(sweep, at, value) for at in range(len(value) - 1)]):
        return False
    return all([end[0] >= bound for end in sweep.ends(value)])


def is_table(value, length):
    """Return whether any value is a list of so many entries."""
    if not isinstance(value, list) or len(value) != length:
        return False
    return all([is_entry(entry) for entry in value])


def is_entry(value):
    """Return whether any value is a tuple of two integers or None."""
    if not isinstance(value, tuple) or len(value) != 2:
        return False
    return all([part is None or is_whole(part) for part in value])


def are_steps_kept(sweep, at, table):
    """Return whether no entry of the next place is greater than a step to it allows."""
    for cost, digit, carry, carried in sweep.steps(at, table[at]):
        bounded = table[at + 1][carried]
        if bounded is None or bounded > cost:
            return False
    return True
