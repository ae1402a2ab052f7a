"""Cheapest routes through several states."""

from abacushead.errors import InvalidLimit
from abacushead.shortest import distance_of_any
from abacushead.states import require_states

MAX_STOPS = 5


def route_cost(row, states):
    """Return the sum of the distances between neighbouring states."""
    require_states(row, states)
    return sum([distance_of_any(row, one, other) for one, other in zip(states, states[1:])])


def best_route(row, start, states):
    """Return the least cost of a route from the start through all states, and the least order with it."""
    require_states(row, [start, *states])
    if len(states) > MAX_STOPS:
        raise InvalidLimit(len(states))
    stops = [*states, start]
    costs = [[distance_of_any(row, one, other) for other in states] for one in stops]
    return best_order(costs, len(states), list(range(len(states))))


def best_order(costs, at, rest):
    """Return the least cost to go on from a stop through the rest, and the least order that has it."""
    if not rest:
        return (0, [])
    found = []
    for index in rest:
        cost, order = best_order(costs, index, [other for other in rest if other != index])
        found.append((costs[at][index] + cost, [index] + order))
    return min(found)
