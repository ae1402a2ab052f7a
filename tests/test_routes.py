"""Routes: point [3] (g) and the section abacushead/routes.py."""

import itertools
import time
import unittest

from abacushead.errors import InvalidLimit, InvalidState
from abacushead.routes import best_route, route_cost
from abacushead.rows import Row
from abacushead.shortest import distance
from cases import ErrorsCase
from samples import LONGEST, NO_STATES, SMALL_ROWS, some_states

ZERO = ((0, 0), 0)
NINE = ((9, 0), 0)


class RouteCostTest(ErrorsCase):
    def test_few_states(self):
        for kind in (list, tuple):
            self.assertEqual(route_cost(Row(10), kind([])), 0)
            self.assertEqual(route_cost(Row(10), kind([NINE])), 0)
            self.assertEqual(route_cost(Row(10), kind([ZERO, NINE])), 4)
            self.assertEqual(route_cost(Row(10), kind([ZERO, NINE, ZERO])), 8)
            self.assertIs(type(route_cost(Row(10), kind([]))), int)

    def test_against_distances(self):
        for row in SMALL_ROWS:
            states = some_states(row, 51, 9)
            for count in range(10):
                expected = sum(distance(row, states[at], states[at + 1]) for at in range(count - 1))
                self.assertEqual(route_cost(row, states[:count]), expected)
                self.assertEqual(route_cost(row, tuple(states[:count])), expected)

    def test_repeated_states(self):
        row = Row(10, move=3)
        self.assertEqual(route_cost(row, [NINE] * 7), 0)
        self.assertEqual(route_cost(row, [ZERO, ZERO, NINE, NINE, ZERO]), 2 * distance(row, ZERO, NINE))

    def test_any_number_of_states(self):
        self.assertEqual(route_cost(Row(10), [ZERO, ((1, 0), 0)] * 2000), 3999)

    def test_invalid_states(self):
        row = Row(10, first=-3, last=4)
        for value in NO_STATES:
            for states in ([value], [value, ZERO], [ZERO, value], [ZERO, NINE, value, ((20, 0), 0)]):
                self.check_same_error(InvalidState, "value", value, route_cost, row, states)
                self.check_same_error(InvalidState, "value", value, route_cost, row, tuple(states))

    def test_states_do_not_change(self):
        states = [ZERO, NINE, ZERO]
        route_cost(Row(10), states)
        best_route(Row(10), ZERO, states)
        self.assertEqual(states, [ZERO, NINE, ZERO])


class BestRouteTest(ErrorsCase):
    def check(self, row, start, states):
        """The least cost of all orders, and the least order with it."""
        expected = min((route_cost(row, [start] + [states[index] for index in order]), list(order))
                       for order in itertools.permutations(range(len(states))))
        for kind in (list, tuple):
            found = best_route(row, start, kind(states))
            self.assertEqual(found, expected, (row.settings, start, states))
            self.assertEqual([type(found), type(found[0]), type(found[1])], [tuple, int, list])

    def test_no_states(self):
        self.assertEqual(best_route(Row(10), NINE, []), (0, []))
        self.assertEqual(best_route(Row(10), NINE, ()), (0, []))

    def test_against_all_orders(self):
        for row in SMALL_ROWS:
            for seed in range(3):
                states = some_states(row, 60 + seed, 6)
                for count in range(1, 6):
                    self.check(row, states[5], states[:count])

    def test_several_orders_with_the_least_cost(self):
        row = Row(10)
        self.assertEqual(best_route(row, ZERO, [ZERO] * 5), (0, [0, 1, 2, 3, 4]))
        self.assertEqual(best_route(row, ZERO, [NINE, ZERO, NINE]), (4, [1, 0, 2]))
        left, right = ((0, 0), -3), ((0, 0), 3)
        self.assertEqual(best_route(row, ZERO, [left, right]), (9, [0, 1]))
        self.assertEqual(best_route(row, ZERO, [right, left]), (9, [0, 1]))
        # The states on the way come first, although their indexes are greater.
        self.assertEqual(best_route(row, ZERO, [right, ((0, 0), 1), ((0, 0), 2)]), (3, [1, 2, 0]))
        self.check(row, ZERO, [right, left, right, left, ZERO])
        self.check(row, ZERO, [((1, 0), 0), ((-1, 0), 0), ((1, 0), 0), ((0, 0), 1), ((0, 0), -1)])
        self.check(row, ZERO, [((0, 0), -2), ((0, 0), 2), ((0, 0), 1), ((0, 0), -1), ((0, 0), 2)])

    def test_the_start_again(self):
        self.assertEqual(best_route(Row(10), NINE, [ZERO, NINE]), (4, [1, 0]))

    def test_long_numbers(self):
        row = Row(10, move=3)
        states = [((LONGEST, -1000), -1000), ((-7, 1000), 1000), ((LONGEST, 0), 3), ((1, 1000), -1000), ((1, -1000), 0)]
        began = time.perf_counter()
        found = best_route(row, ZERO, states)
        self.assertLess(time.perf_counter() - began, 4)
        self.assertEqual(route_cost(row, [ZERO] + [states[index] for index in found[1]]), found[0])
        self.check(row, ZERO, states[:4])

    def test_negated_and_shifted(self):
        row = Row(10, add=3)
        for seed in range(5):
            states = some_states(row, 70 + seed, 5)
            negated = [((-number[0], number[1]), place) for number, place in states]
            shifted = [((number[0], number[1] + 99 if number[0] else 0), place + 99) for number, place in states]
            expected = best_route(row, states[0], states[1:])
            self.assertEqual(best_route(row, negated[0], negated[1:]), expected)
            self.assertEqual(best_route(row, shifted[0], shifted[1:]), expected)

    def test_results_are_new(self):
        for _ in range(3):
            cost, order = best_route(Row(10), ZERO, [NINE, ZERO])
            self.assertEqual((cost, order), (4, [1, 0]))
            order.clear()
            cost, order = best_route(Row(10), ZERO, [])
            self.assertEqual((cost, order), (0, []))
            order.append(7)

    def test_too_many_states(self):
        for count in (6, 7, 100):
            for kind in (list, tuple):
                self.check_error(InvalidLimit, "value", count, best_route, Row(10), ZERO, kind([ZERO] * count))
        self.assertEqual(best_route(Row(10), ZERO, [ZERO] * 5)[0], 0)

    def test_invalid_states(self):
        row = Row(10, first=-3, last=4)
        for value in NO_STATES:
            for start, states in ((value, []), (value, [((20, 0), 0)]), (ZERO, [value]), (ZERO, [NINE, value, (1, 2)]),
                                  (ZERO, [NINE] * 5 + [value]), (ZERO, [value] + [NINE] * 9), (value, [NINE] * 9)):
                self.check_same_error(InvalidState, "value", value, best_route, row, start, states)


if __name__ == "__main__":
    unittest.main()
