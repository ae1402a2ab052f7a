"""Cheapest ways to a number at any position, into an interval, and to a residue."""

from abacushead.errors import InvalidRow, InvalidTarget
from abacushead.integers import MAX_PLACE, is_whole, is_within
from abacushead.numbers import form_of, negative, sum_of, units
from abacushead.shortest import Sweep, sequence_through
from abacushead.states import is_state, require_state

MAX_WIDTH = 100
MAX_MODULUS = 40


class ResidueSweep:
    """A way over all places in one direction that changes a number by residues of a modulus.

    The head first moves from its position to any place, without additions, and goes on from
    there in the direction of the sweep. For each place there is a list that has, for each
    residue of what was added so far, the least cost and the digit of the place, or None.
    """

    def __init__(self, row, position, modulus, places):
        self.row = row
        self.position = position
        self.modulus = modulus
        self.places = places
        self.table = []
        before = [None] * modulus
        for place in places:
            before = self.options_at(place, before)
            self.table.append(before)

    def options_at(self, place, before):
        """List the least costs and digits at a place, after those of the place before."""
        found = [None if option is None else (option[0] + self.row.move_cost, 0) for option in before]
        # No other way without a change is cheaper than the one that comes here directly.
        found[0] = (self.row.move_cost * abs(place - self.position), 0)
        step = self.step_at(place)
        self.spread(found, step, 1)
        self.spread(found, -step, -1)
        return found

    def step_at(self, place):
        """Return the residue of a one at a place."""
        return residue_of(self.row.base, (1, place), self.modulus)

    def spread(self, options, step, sign):
        """Better the options of a place by further additions, each of which adds the step."""
        circles = common_divisor(abs(step), self.modulus)
        for first in range(circles):
            at = first
            # After going round twice, the cheapest option of a circle has reached all of it.
            for turn in range(2 * self.modulus // circles):
                after = (at + step) % self.modulus
                if options[at] is not None:
                    cost, digit = options[at]
                    better = (cost + self.row.add_cost, digit + sign)
                    if options[after] is None or better[0] < options[after][0]:
                        options[after] = better
                at = after

    def ends(self, residue):
        """List the ends with this residue: the cost and the index of the place."""
        return [(options[residue][0], index) for index, options in enumerate(self.table)
                if options[residue] is not None]

    def stops(self, index, residue):
        """List the places and digits of a cheapest way to the place with this index."""
        stops = []
        while True:
            place = self.places[index]
            digit = self.table[index][residue][1]
            stops.append((place, digit))
            residue = (residue - digit * self.step_at(place)) % self.modulus
            # Without any change before it, the way comes to this place directly.
            if residue == 0:
                return stops[::-1]
            index -= 1


def to_number(row, start, number):
    """Return the least distance to a state with the number, and the least position of such a state."""
    require_state(row, start)
    if not is_state(row, (number, start[1])):
        raise InvalidTarget(number)
    return nearest(row, start, number)


def to_interval(row, start, low, high):
    """Return the least distance to an integer from low to high, the least such integer, its least position."""
    require_state(row, start)
    numbers = state_integers(row, start[1], low, high)
    if not numbers:
        raise InvalidTarget((low, high))
    found = []
    for integer, number in numbers:
        cost, position = nearest(row, start, number)
        found.append((cost, integer, position))
    return min(found)


def to_residue(row, start, modulus, residue):
    """Return a tuple (cost, sequence) for a cheapest sequence to an integer that leaves the residue."""
    require_state(row, start)
    if not is_within(modulus, 1, MAX_MODULUS) or not is_within(residue, 0, modulus - 1):
        raise InvalidTarget((modulus, residue))
    if row.first != 0:
        raise InvalidRow("first")
    number, position = start
    change = (residue - residue_of(row.base, number, modulus)) % modulus
    # The residues of the places recur after at most as many places as the modulus, so that
    # places farther on the right have none that is new.
    end = min(MAX_PLACE if row.last is None else row.last, position + modulus)
    places = list(range(end + 1))
    sweeps = [ResidueSweep(row, position, modulus, way) for way in (places, places[::-1])]
    ends = [(cost, which, index) for which, sweep in enumerate(sweeps) for cost, index in sweep.ends(change)]
    cost, which, index = min(ends)
    return (cost, sequence_through(position, sweeps[which].stops(index, change)))


def nearest(row, start, number):
    """Return the least distance to a state with the number, of any size, and the least position of such a state."""
    near = start[1]
    change = sum_of(row.base, [number, negative(start[0])])
    # The sweep comes back to the first position. A cheapest way to any position spares
    # the moves back from the end that is farther away.
    sweep = Sweep(row, change, near, near)
    found = []
    for cost, at, carry in sweep.ends(sweep.least_costs()):
        for place in (sweep.low, sweep.low + at):
            found.append((cost - row.move_cost * abs(place - near), place))
    return min(found)


def state_integers(row, place, low, high):
    """List the integers from low to high that are numbers of states, each with its number."""
    if not is_whole(low) or not is_whole(high) or not low <= high <= low + MAX_WIDTH:
        return []
    pairs = [(integer, form_of(row.base, integer, 0)) for integer in range(low, high + 1)]
    return [(integer, number) for integer, number in pairs if is_state(row, (number, place))]


def residue_of(base, number, modulus):
    """Return the residue of a number that is an integer."""
    return units(base, number, 0) % modulus


def common_divisor(one, other):
    """Return the greatest common divisor of two integers from 0, not both 0."""
    while other != 0:
        one, other = other, one % other
    return one
