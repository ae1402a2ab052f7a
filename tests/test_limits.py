"""Few additions, few places: point [3] (d) and the section abacushead/limits.py."""

import functools
import heapq
import itertools
import time
import unittest

from abacushead.errors import InvalidLimit, InvalidState
from abacushead.limits import shortest_within
from abacushead.numbers import make_number
from abacushead.rows import Row
from abacushead.shortest import distance
from abacushead.states import is_state
from cases import NO_WHOLES, WaysCase
from samples import (LONGEST, NO_STATES, SIGNS, SMALL_ROWS, STEPS, cost_of_text, some_long_numbers, some_pairs,
                     some_states, worth)

ZERO = ((0, 0), 0)
NINE = ((9, 0), 0)

ROWS = [
    Row(2), Row(3), Row(10), Row(36), Row(2, first=-1, last=3), Row(10, first=-1), Row(10, last=1), Row(5, move=7),
    Row(5, add=7), Row(2, move=3, add=2), Row(10, move=100, first=-3), Row(10, add=1000000), Row(36, move=9, add=4),
]


def searched_within(row, start, budget):
    """For each state within the budget the costs of ways to it, with their additions and places."""
    unit = start[1] - budget // row.move_cost - 3
    first = (start[0][0] * row.base ** (start[0][1] - unit), start[1], start[1], start[1], 0)
    known, waiting, found = set(), [(0, first)], {}
    while waiting:
        cost, way = heapq.heappop(waiting)
        if way in known:
            continue
        known.add(way)
        amount, position, low, high, added = way
        found.setdefault((amount, position), []).append((cost, added, high - low + 1))
        for letter in "RLAS":
            at, further = position + STEPS[letter], cost + cost_of_text(row, letter)
            if row.has_place(at) and further <= budget:
                after = (amount + SIGNS[letter] * row.base ** (at - unit), at, min(low, at), max(high, at),
                         added + abs(SIGNS[letter]))
                heapq.heappush(waiting, (further, after))
    return {(make_number(row.base, amount, unit), at): ways for (amount, at), ways in found.items()}


@functools.lru_cache(maxsize=None)
def fewest(base, value, count):
    """The fewest additions that make a value at so many places, also with digits greater than the base."""
    if count == 1:
        return abs(value)
    rest = value % base
    return min(abs(digit) + fewest(base, (value - digit) // base, count - 1)
               for digit in (rest - 2 * base, rest - base, rest, rest + base))


def planned(row, start, goal):
    """The additions, the places and the cost of plans, with more places than are needed."""
    change = worth(row.base, goal[0]) - worth(row.base, start[0])
    exponents = [number[1] for number, _ in (start, goal) if number[0]]
    lowest = min([start[1], goal[1]] + exponents)
    end = max(start[1], goal[1]) + 3
    while abs(change) > worth(row.base, (1, end - 3)):
        end += 1
    lows = [low for low in range(lowest - 2, min(start[1], goal[1]) + 1) if row.has_place(low)]
    for low in lows:
        value = change / worth(row.base, (1, low))
        if value.denominator == 1:
            for high in range(max(start[1], goal[1]), end + 1):
                if row.has_place(high):
                    additions = fewest(row.base, int(value), high - low + 1)
                    moves = 2 * (high - low) - abs(start[1] - goal[1])
                    yield additions, high - low + 1, row.add_cost * additions + row.move_cost * moves


class LimitsCase(WaysCase):
    def check(self, cost, row, start, goal, **limits):
        """The cost, and the sequence with it that keeps to the limits; the cost None for no sequence."""
        with self.subTest(settings=row.settings, start=start, goal=goal, limits=limits):
            found = shortest_within(row, start, goal, **limits)
            if cost is None:
                self.assertIsNone(found)
                return
            self.assertIs(type(found), tuple)
            self.assertEqual(found[0], cost)
            self.check_way(row, start, goal, found[1], cost)
            if limits.get("additions") is not None:
                self.assertLessEqual(self.additions_of(found[1]), limits["additions"])
            if limits.get("places") is not None:
                self.assertLessEqual(self.places_of(start, found[1]), limits["places"])


class SearchTest(LimitsCase):
    """Against all ways step by step."""

    def check_goal(self, row, start, goal, ways, budget):
        for additions, places in itertools.product((None, 0, 1, 2, 3, 5), (None, 0, 1, 2, 3, 4)):
            costs = [cost for cost, added, visits in ways if additions is None or added <= additions
                     if places is None or visits <= places]
            if costs:
                self.check(min(costs), row, start, goal, additions=additions, places=places)
            else:
                found = shortest_within(row, start, goal, additions=additions, places=places)
                self.assertTrue(found is None or found[0] > budget)

    def test_states_near_the_start(self):
        for row in (Row(2), Row(3, first=0), Row(10), Row(2, first=0, last=2), Row(4, move=2), Row(3, add=2, last=1)):
            for start in [ZERO, ((5, -1), 1), ((-13, 0), 1)]:
                if is_state(row, start):
                    for goal, ways in searched_within(row, start, 5).items():
                        self.check_goal(row, start, goal, ways, 5)

    def test_narrow_rows(self):
        for row, budget in ((Row(2, first=0, last=1), 9), (Row(3, first=0, last=1, move=4), 16)):
            found = searched_within(row, ZERO, budget)
            for goal in list(found)[::4]:
                self.check_goal(row, ZERO, goal, found[goal], budget)


class PlansTest(LimitsCase):
    """Against all plans with more digits and places than are needed."""

    def check_pair(self, row, start, goal):
        plans = list(planned(row, start, goal))
        fewest_additions, fewest_places = min(plans)[0], min(plan[1] for plan in plans)
        some_additions = {plan[0] for plan in plans} | {0, 1, fewest_additions - 1, fewest_additions + 1}
        some_places = {plan[1] for plan in plans} | {0, 1, fewest_places - 1}
        self.check(min(plan[2] for plan in plans), row, start, goal)
        for additions in sorted(value for value in some_additions if value >= 0)[:12] + [10 ** 30, None]:
            for places in sorted(value for value in some_places if value >= 0)[:14] + [10 ** 30, None]:
                costs = [plan[2] for plan in plans if additions is None or plan[0] <= additions
                         if places is None or plan[1] <= places]
                self.check(min(costs, default=None), row, start, goal, additions=additions, places=places)

    def test_short_numbers(self):
        for row in SMALL_ROWS:
            for start, goal in some_pairs(row, 5, 3):
                self.check_pair(row, start, goal)

    def test_six_digits_and_more(self):
        for row in ROWS:
            for numerator in (654321, -999999, 10 ** 7 + 1, 131071, 2 ** 24 - 1):
                goal = (make_number(row.base, numerator, 0), 1)
                self.check_pair(row, ((-7, 0), 0), goal)

    def test_limits_that_cost_more_than_the_distance(self):
        row = Row(10)
        goal = ((9999, 0), 0)
        self.check(10, row, ZERO, goal)
        self.check(10, row, ZERO, goal, additions=2)
        self.check(None, row, ZERO, goal, additions=1)
        self.check(10, row, ZERO, goal, places=5)
        self.check(11 + 6, row, ZERO, goal, places=4)
        self.check(101 + 4, row, ZERO, goal, places=3)
        self.check(1001 + 2, row, ZERO, goal, places=2)
        self.check(9999, row, ZERO, goal, places=1)
        self.check(None, row, ZERO, goal, places=0)
        self.check(None, row, ZERO, goal, places=4, additions=10)
        self.check(17, row, ZERO, goal, places=4, additions=11)
        dear = Row(10, move=100)
        self.check(9, dear, ZERO, NINE)
        self.check(202, dear, ZERO, NINE, additions=8)
        self.check(202, dear, ZERO, NINE, additions=2)
        self.check(None, dear, ZERO, NINE, additions=8, places=1)
        self.check(None, dear, ZERO, NINE, additions=1)


class EdgesTest(LimitsCase):
    def test_examples(self):
        self.assertEqual(shortest_within(Row(10), ZERO, NINE, places=1), (9, [("A", 9)]))
        self.assertIsNone(shortest_within(Row(10), ZERO, NINE, additions=1))

    def test_equal_states(self):
        for row in (Row(10), Row(2, move=9), Row(10, first=0)):
            for state in (ZERO, ((7, 3), 5), ((LONGEST, 0), 1000)):
                if is_state(row, state):
                    self.assertEqual(shortest_within(row, state, state), (0, []))
                    self.assertEqual(shortest_within(row, state, state, additions=0), (0, []))
                    self.assertEqual(shortest_within(row, state, state, places=1), (0, []))
                    self.assertEqual(shortest_within(row, state, state, additions=0, places=1), (0, []))
                    # The start itself is a visited place.
                    self.assertIsNone(shortest_within(row, state, state, places=0))
                    self.assertIsNone(shortest_within(row, state, state, places=0, additions=5))

    def test_no_additions(self):
        self.check(7, Row(10), ((5, 0), -3), ((5, 0), 4), additions=0)
        self.check(7, Row(10), ((5, 0), -3), ((5, 0), 4), additions=0, places=8)
        self.check(None, Row(10), ((5, 0), -3), ((5, 0), 4), additions=0, places=7)
        self.check(None, Row(10), ((5, 0), 0), ((6, 0), 0), additions=0)
        self.check(None, Row(10), ((5, 0), 0), ((5, 1), 0), additions=0)

    def test_numbers_that_need_more_places(self):
        self.check(13, Row(10), ZERO, ((3, 5), 0))
        # Three thousand at the place below, and so on: places can be spared at the upper end only.
        self.check(30 + 8, Row(10), ZERO, ((3, 5), 0), places=5)
        self.check(300000, Row(10), ZERO, ((3, 5), 0), places=1)
        for places in range(6):
            self.check(None, Row(10), ZERO, ((3, -5), 0), places=places)
        self.check(13, Row(10), ZERO, ((3, -5), 0), places=6)
        self.check(None, Row(10), ((0, 0), -1), ((0, 0), 3), places=4)
        self.check(4, Row(10), ((0, 0), -1), ((0, 0), 3), places=5)

    def test_last_place(self):
        self.check(99, Row(10, last=0), ZERO, ((99, 0), 0))
        self.check(None, Row(10, last=0), ZERO, ((99, 0), 0), additions=98)
        self.check(13, Row(10, last=1), ZERO, ((99, 0), 0), additions=11)
        self.check(None, Row(10, last=1), ZERO, ((99, 0), 0), additions=10)
        self.check(99, Row(10, last=1), ZERO, ((99, 0), 0), places=1)

    def test_no_limits(self):
        for row in SMALL_ROWS:
            for start, goal in some_pairs(row, 6, 10):
                self.check(distance(row, start, goal), row, start, goal)
                self.check(distance(row, start, goal), row, start, goal, additions=None, places=None)
                self.check(distance(row, start, goal), row, start, goal, additions=10 ** 399, places=10 ** 399)

    def test_long_numbers(self):
        for row in (Row(2), Row(10), Row(36, move=9), Row(10, add=9, last=17)):
            numbers = some_long_numbers(row.base, 21, 6)
            for one, other, near, far in zip(numbers, numbers[1:], (0, -1000, 17, 5, -7), (3, 10, -900, 0, 17)):
                start, goal = (one, near), (other, far)
                began = time.perf_counter()
                cost, way = shortest_within(row, start, goal)
                self.check(distance(row, start, goal), row, start, goal)
                added, places = self.additions_of(way), self.places_of(start, way)
                self.check(cost, row, start, goal, additions=added, places=places)
                for fewer in (shortest_within(row, start, goal, additions=added - 1),
                              shortest_within(row, start, goal, places=places - 1)):
                    self.assertTrue(fewer is None or fewer[0] >= cost)
                self.assertLess(time.perf_counter() - began, 4)

    def test_negated_and_shifted(self):
        row = Row(10, move=2, add=3)
        for start, goal in some_pairs(row, 7, 12):
            for limits in ({"additions": 6}, {"places": 4}, {"additions": 11, "places": 5}):
                expected = shortest_within(row, start, goal, **limits)
                negated = [((-number[0], number[1]), position) for number, position in (start, goal)]
                shifted = [((number[0], number[1] + 50 if number[0] else 0), position + 50)
                           for number, position in (start, goal)]
                for pair in (negated, shifted, (goal, start)):
                    found = shortest_within(row, *pair, **limits)
                    self.assertEqual(found and found[0], expected and expected[0])

    def test_returned_lists_are_new(self):
        for _ in range(3):
            cost, way = shortest_within(Row(10), ZERO, NINE, places=1)
            self.assertEqual((cost, way), (9, [("A", 9)]))
            way.append(("R", 1))


class ErrorsTest(LimitsCase):
    def test_invalid_states(self):
        row = Row(10, first=-3, last=4)
        for value in NO_STATES:
            for start, goal in [(value, ZERO), (ZERO, value), (value, ((20, 0), 0))]:
                self.check_same_error(InvalidState, "value", value, shortest_within, row, start, goal)
                self.check_same_error(InvalidState, "value", value, shortest_within, row, start, goal, additions=-1,
                                      places=-1)

    def test_invalid_limits(self):
        for value in NO_WHOLES + [-1, -(10 ** 399)]:
            for start, goal in ((ZERO, NINE), (ZERO, ZERO)):
                self.check_same_error(InvalidLimit, "value", value, shortest_within, Row(10), start, goal,
                                      additions=value)
                self.check_same_error(InvalidLimit, "value", value, shortest_within, Row(10), start, goal,
                                      places=value)
                self.check_same_error(InvalidLimit, "value", value, shortest_within, Row(10), start, goal,
                                      places=-7, additions=value)
                self.check_same_error(InvalidLimit, "value", value, shortest_within, Row(10), start, goal,
                                      places=value, additions=0)

    def test_keyword_only(self):
        self.assertRaises(TypeError, shortest_within, Row(10), ZERO, NINE, 1)
        self.assertRaises(TypeError, shortest_within, Row(10), ZERO, NINE, None, None)
        found = shortest_within(goal=NINE, places=1, row=Row(10), additions=9, start=ZERO)
        self.assertEqual(found, (9, [("A", 9)]))

    def test_arguments_do_not_change(self):
        states = some_states(Row(10), 4, 6)
        before = repr(states)
        for start in states:
            shortest_within(Row(10), start, states[0], additions=5, places=3)
        self.assertEqual(repr(states), before)


if __name__ == "__main__":
    unittest.main()
