"""Cheapest sequences between two states, by plans (low, high, digits)."""

from abacushead.errors import InvalidTarget
from abacushead.integers import MAX_PLACE, is_whole
from abacushead.numbers import negative, sum_of, units
from abacushead.sequences import merged
from abacushead.states import require_states


class Sweep:
    """A way up over the places, from the lowest one, that makes a difference.

    At each place a value is left over: the floor of difference / base ** place, or one
    more if a one was carried there. A digit is taken off it, the rest goes to the next
    place. Where the way ends, the value left over is the digit. The places count from 0
    here, by their index in floors.
    """

    def __init__(self, row, change, near, far):
        lowest = [near, far] if change[0] == 0 else [near, far, change[1]]
        self.row = row
        self.low = min(lowest)
        self.span = abs(far - near)
        self.ready = max(near, far) - self.low
        self.floors = floors_up(row, units(row.base, change, self.low), self.low, max(near, far))

    def choices(self, at, carry):
        """List the digits that can be taken off a value, each with the carry that follows."""
        base = self.row.base
        rest = self.floors[at] % base + carry
        if rest == 0 or rest == base:
            return [(0, rest // base)]
        return [(rest, 0), (rest - base, 1)]

    def steps(self, at, costs):
        """List the steps to the next place: the cost after it, the digit, both carries."""
        return [(cost + self.row.add_cost * abs(digit), digit, carry, carried)
                for carry, cost in enumerate(costs) if cost is not None
                for digit, carried in self.choices(at, carry)]

    def least_costs(self):
        """List the least costs to reach each place without and with a carry, None if there is no way."""
        table = [(0, None)]
        for at in range(len(self.floors) - 1):
            found = self.steps(at, table[-1])
            least = [min([step[0] for step in found if step[3] == carried], default=None)
                     for carried in (0, 1)]
            table.append(tuple(least))
        return table

    def ends(self, table):
        """List the ends of ways with the costs of a table: the cost in all, the place, the carry."""
        return [(cost + self.end_cost(at, carry), at, carry)
                for at in range(self.ready, len(self.floors))
                for carry, cost in enumerate(table[at]) if cost is not None]

    def end_cost(self, at, carry):
        """Return the cost of the last digit, and of all moves if the way ends at this place."""
        digit = self.floors[at] + carry
        return self.row.add_cost * abs(digit) + self.row.move_cost * self.moves(at)

    def moves(self, at):
        """Return the number of all moves if the way ends at this place."""
        return 2 * at - self.span

    def digits_before(self, table, at, carry):
        """List the digits of a cheapest way to a place, by the least costs."""
        digits = []
        while at > 0:
            at -= 1
            # Each cost of the table is the least one, so the cheapest step back is on such a way.
            back = min([step for step in self.steps(at, table[at]) if step[3] == carry])
            digits.append(back[1])
            carry = back[2]
        return digits[::-1]

    def plan(self, table, at, carry):
        """Return the plan of a cheapest way that ends at a place with a carry, by the least costs."""
        digits = self.digits_before(table, at, carry) + [self.floors[at] + carry]
        return (self.low, self.low + at, digits)


def distance(row, start, goal):
    """Return the least cost of a sequence from start to goal within the row."""
    return least_cost(sweep_between(row, start, goal))


def best_plan(row, start, goal):
    """Return a plan of least cost."""
    sweep = sweep_between(row, start, goal)
    table = sweep.least_costs()
    cost, at, carry = min(sweep.ends(table))
    return sweep.plan(table, at, carry)


def plan_cost(row, start, goal, value):
    """Return the cost of a plan, None for any value that is not a plan between the states."""
    require_states(row, [start, goal])
    if not is_plan(row, start, goal, value):
        return None
    low, high, digits = value
    moves = 2 * (high - low) - abs(goal[1] - start[1])
    return row.add_cost * sum([abs(digit) for digit in digits]) + row.move_cost * moves


def perform(row, start, goal, plan):
    """Return a sequence that performs the plan at its cost."""
    if plan_cost(row, start, goal, plan) is None:
        raise InvalidTarget(plan)
    low, high, digits = plan
    stops = [(low + index, digit) for index, digit in enumerate(digits)]
    # The digits are made on the long way from one end to the other, in the direction of the goal.
    if goal[1] < start[1]:
        stops = stops[::-1]
    return sequence_through(start[1], stops + [(goal[1], 0)])


def shortest(row, start, goal):
    """Return a sequence of least cost."""
    return perform(row, start, goal, best_plan(row, start, goal))


def sweep_between(row, start, goal):
    """Return the sweep between two values that should be states."""
    require_states(row, [start, goal])
    return sweep_of_any(row, start, goal)


def sweep_of_any(row, start, goal):
    """Return the sweep between two states whose numbers may be of any size."""
    return Sweep(row, difference(row.base, start, goal), start[1], goal[1])


def distance_of_any(row, start, goal):
    """Return the distance between two states whose numbers may be of any size."""
    return least_cost(sweep_of_any(row, start, goal))


def least_cost(sweep):
    """Return the least cost of a way up."""
    return min([end[0] for end in sweep.ends(sweep.least_costs())])


def difference(base, start, goal):
    """Return the difference of two states in the form of a number, of any size."""
    return sum_of(base, [goal[0], negative(start[0])])


def floors_up(row, value, low, ready):
    """List the floors of a value in units of each place, from low to the last place that matters."""
    end = MAX_PLACE if row.last is None else row.last
    floors = [value]
    place = low
    while place < end and (place < ready or value not in (-1, 0)):
        value //= row.base
        floors.append(value)
        place += 1
    return floors


def is_plan(row, start, goal, value):
    """Return whether any value is a plan between two states."""
    if not isinstance(value, tuple) or len(value) != 3:
        return False
    low, high, digits = value
    if not row.has_place(low) or low > min(start[1], goal[1]):
        return False
    if not row.has_place(high) or high < max(start[1], goal[1]):
        return False
    if not isinstance(digits, list) or len(digits) != high - low + 1:
        return False
    if not all([is_whole(digit) for digit in digits]):
        return False
    parts = [(digit, low + index) for index, digit in enumerate(digits)]
    return sum_of(row.base, parts) == difference(row.base, start, goal)


def sequence_through(position, stops):
    """Return the sequence that goes from stop to stop (place, digit) and makes the digit at each."""
    runs = []
    for place, digit in stops:
        runs.append(move_run(place - position))
        runs.append(digit_run(digit))
        position = place
    return merged(runs)


def move_run(offset):
    """Return a run of moves; its count may be 0."""
    return ("R", offset) if offset >= 0 else ("L", -offset)


def digit_run(digit):
    """Return a run of additions; its count may be 0."""
    return ("A", digit) if digit >= 0 else ("S", -digit)
