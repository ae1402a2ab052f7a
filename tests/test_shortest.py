"""Distances: points [8] and [3] (b) and (i), and the section abacushead/shortest.py."""

import time
import unittest

from abacushead.errors import InvalidState
from abacushead.numbers import make_number
from abacushead.rows import Row
from abacushead.shortest import best_plan, distance, perform, plan_cost, shortest
from abacushead.states import is_state
from abacushead.tables import check_table, make_table, table_range
from abacushead.choices import first_operations, slacks
from samples import LONGEST, NO_STATES, SMALL_ROWS, counted, searched, some_long_numbers, worth

ZERO = ((0, 0), 0)
STARTS = [ZERO, ((7, 0), 0), ((-1, 1), 0), ((5, -1), 1), ((-13, 0), 1)]


class SearchTest(unittest.TestCase):
    def starts(self, row):
        return [state for state in STARTS if is_state(row, state)]

    def test_states_near_the_start(self):
        for row in SMALL_ROWS:
            for start in self.starts(row):
                for goal, cost in searched(row, start, 7).items():
                    self.assertEqual(distance(row, start, goal), cost, (row.settings, start, goal))
                    self.assertEqual(distance(row, goal, start), cost, (row.settings, goal, start))

    def test_states_beyond_the_budget(self):
        for row in SMALL_ROWS:
            for start in self.starts(row):
                found = searched(row, start, 6)
                for numerator in range(-60, 61, 3):
                    for position in (-1, 0, 1, 2):
                        goal = (make_number(row.base, numerator, 0), position)
                        if is_state(row, goal) and goal not in found:
                            self.assertGreater(distance(row, start, goal), 6)

    def test_farther_states_in_narrow_rows(self):
        for row in (Row(2, first=0, last=2), Row(10, first=0, last=1), Row(3, move=3, first=-1, last=1),
                    Row(4, add=3, first=0, last=1), Row(10, move=5, add=2, first=0, last=1)):
            for start in self.starts(row):
                for goal, cost in searched(row, start, 22).items():
                    self.assertEqual(distance(row, start, goal), cost, (row.settings, start, goal))

    def test_dear_moves_and_dear_additions(self):
        for row, budget in ((Row(2, move=9, first=-1, last=2), 40), (Row(3, move=20, first=0, last=2), 60),
                            (Row(2, add=9, first=-2, last=3), 45), (Row(5, add=12, first=-1, last=3), 50)):
            for goal, cost in searched(row, ZERO, budget).items():
                self.assertEqual(distance(row, ZERO, goal), cost, (row.settings, goal))


class SmallTest(unittest.TestCase):
    def check(self, cost, row, start, goal):
        with self.subTest(settings=row.settings, start=start, goal=goal):
            self.assertEqual(distance(row, start, goal), cost)
            self.assertEqual(distance(row, goal, start), cost)
            self.assertIs(type(distance(row, start, goal)), int)

    def test_examples(self):
        self.check(4, Row(10), ZERO, ((9, 0), 0))
        self.check(3, Row(10), ZERO, ((9, 0), 1))
        self.check(6, Row(10), ZERO, ((2, 2), 0))
        self.check(0, Row(10), ((5, 0), 3), ((5, 0), 3))

    def test_equal_states(self):
        for state in [ZERO, ((0, 0), 1000), ((0, 0), -1000), ((LONGEST, 1000), -1000), ((-7, -1000), 1000)]:
            for row in (Row(10), Row(10, move=1000000), Row(10, first=-1000, last=1000)):
                self.check(0, row, state, state)

    def test_moves_alone(self):
        self.check(7, Row(10), ((5, 0), -3), ((5, 0), 4))
        self.check(6000, Row(10, move=3), ((5, -9), -1000), ((5, -9), 1000))

    def test_nines(self):
        for digits in range(2, 40):
            nines = (10 ** digits - 1, 0)
            self.check(2 + 2 * digits, Row(10), ZERO, (nines, 0))
            self.check(2 + digits, Row(10), ZERO, (nines, digits))
            self.check(2 + 2 * digits - 1, Row(10), ZERO, (nines, 1))
            self.check(10 ** digits - 1, Row(10, last=0), ZERO, (nines, 0))
            self.check(10 ** (digits - 1) + 3, Row(10, last=1), ZERO, (nines, 0))

    def test_one_less_than_a_power(self):
        for base in (2, 3, 4, 10, 36):
            for count in range(4, 30):
                number = base ** count - 1
                # The power itself: a one at its place, or as many as the base one place before.
                power = min(1 + 2 * count, base + 2 * (count - 1))
                self.check(1 + power, Row(base), ZERO, ((number, 0), 0))
                self.check(1 + power, Row(base), ZERO, ((-number, 0), 0))
                self.check(power, Row(base), ((-1, 0), 0), ((number, 0), 0))

    def test_last_place_above_the_greater_position(self):
        self.check(3 + 90, Row(10, last=0), ((-3, 0), 0), ((9, 1), 0))
        self.check(1 + 10 + 2, Row(10, last=1), ZERO, ((99, 0), 0))
        self.check(1 + 10 + 1, Row(10, last=1), ZERO, ((99, 0), 1))
        self.check(1 + 1 + 4, Row(10, last=2), ZERO, ((99, 0), 0))
        self.check(7 * 10 ** 5, Row(10, last=0), ZERO, ((7, 5), 0))
        self.check(7 * 10 ** 4 + 2, Row(10, last=1), ZERO, ((7, 5), 0))

    def test_first_place_at_the_least_one(self):
        row = Row(10, first=0)
        self.check(4, row, ZERO, ((9, 0), 0))
        self.check(3, row, ((0, 0), 1), ((1, 0), 1))
        self.check(6, Row(10, first=-2), ZERO, ((2, -2), 0))
        self.check(6, Row(10, first=-2, last=0), ZERO, ((2, -2), 0))
        self.check(2001, Row(10, first=-1000), ZERO, ((1, -1000), 0))

    def test_extreme_places(self):
        self.check(1, Row(10), ((0, 0), 1000), ((1, 1000), 1000))
        self.check(9, Row(10), ((0, 0), 1000), ((9, 1000), 1000))
        self.check(99, Row(10), ((0, 0), 1000), ((99, 1000), 1000))
        self.check(3, Row(10), ((0, 0), 999), ((1, 1000), 999))
        self.check(3, Row(10), ((0, 0), -1000), ((9, -1000), -999))
        self.check(2001, Row(10), ((0, 0), -1000), ((1, 1000), 1000))
        self.check(4001, Row(10), ((0, 0), -1000), ((1, 1000), -1000))
        self.check(4001, Row(10), ((0, 0), 1000), ((1, -1000), 1000))
        self.check(4002, Row(10), ((1, 1000), 0), ((1, -1000), 0))
        self.check(4001, Row(2), ((1, 1000), 0), ((1, -1000), 0))
        self.check(7 * 10 ** 100, Row(10, last=900), ((0, 0), 900), ((7, 1000), 900))

    def test_numbers_far_from_the_positions(self):
        self.check(13, Row(10), ZERO, ((3, 5), 0))
        self.check(13, Row(10), ZERO, ((3, -5), 0))
        self.check(16, Row(10), ((0, 0), -5), ((10 ** 12 + 1, -6), 5))

    def test_results_are_integers_of_any_length(self):
        row = Row(10, add=1000000, last=-1000)
        self.check(10 ** 6 * 7 * 10 ** 2000, row, ((0, 0), -1000), ((7, 1000), -1000))


class LongTest(unittest.TestCase):
    ROWS = [Row(10), Row(2), Row(36), Row(3, move=1000000), Row(10, add=1000000), Row(10, move=7, add=3, last=20),
            Row(36, last=0), Row(2, move=5, last=999), Row(7, move=10 ** 6, add=10 ** 6)]

    def goals(self, row, count):
        numbers = some_long_numbers(row.base, 11, count)
        places = [-1000, 1000, 0, 17, -400, 19, 5]
        for index, (one, other) in enumerate(zip(numbers, numbers[1:])):
            near = min(places[index % 7], 1000 if row.last is None else row.last)
            far = min(places[index * 3 % 5], 1000 if row.last is None else row.last)
            yield (one, near), (other, far)

    def test_against_counting(self):
        for row in self.ROWS:
            for start, goal in self.goals(row, 8):
                self.assertEqual(distance(row, start, goal), counted(row, start, goal))

    def test_directions(self):
        for row in self.ROWS:
            for start, goal in self.goals(row, 8):
                self.assertEqual(distance(row, start, goal), distance(row, goal, start))

    def test_long_nines(self):
        for exponent in (-1000, -3, 0, 500):
            self.assertEqual(distance(Row(10), ZERO, ((LONGEST, exponent), 0)),
                             2 + 2 * (max(0, exponent + 300) - min(0, exponent)))
        self.assertEqual(distance(Row(10), ((0, 0), 700), ((LONGEST, 700), 700)), 602)
        self.assertEqual(distance(Row(2), ((0, 0), 0), ((2 ** 996 - 1, 0), 996)), 998)
        # With a place of carry too few, the last place takes a digit of any size.
        self.assertEqual(distance(Row(10), ((0, 0), 701), ((LONGEST, 701), 701)), 1 + 10 + 2 * 299)
        self.assertEqual(distance(Row(10, last=299), ZERO, ((LONGEST, 0), 0)), 1 + 10 + 2 * 299)

    def test_callers_need_not_wait(self):
        calls = [distance, best_plan, shortest, slacks, first_operations, table_range, make_table]
        for base in (2, 10, 36):
            start, goal = ((LONGEST, -1000), -1000), ((-7 * 10 ** 299 - 1, 1000), 1000)
            for call in calls:
                began = time.perf_counter()
                call(Row(base), start, goal)
                self.assertLess(time.perf_counter() - began, 2, call.__name__)
            began = time.perf_counter()
            self.assertEqual(plan_cost(Row(base), start, goal, best_plan(Row(base), start, goal)),
                             distance(Row(base), start, goal))
            self.assertTrue(check_table(Row(base), start, goal, distance(Row(base), start, goal),
                                        make_table(Row(base), start, goal)))
            self.assertLess(time.perf_counter() - began, 4)


class GuaranteesTest(unittest.TestCase):
    """Point [3] (i)."""

    STATES = [(number, position) for number in [(0, 0), (1, 0), (-19, 1), (99, -2), (LONGEST, 3), (12345, -4)]
              for position in (-3, 0, 4)]

    def test_negated_numbers(self):
        for row in (Row(10), Row(2, move=3), Row(10, last=4), Row(36, add=5, first=-9)):
            states = [state for state in self.STATES if is_state(row, state)]
            for start in states:
                for goal in states:
                    negated = [((-number[0], number[1]), position) for number, position in (start, goal)]
                    self.assertEqual(distance(row, *negated), distance(row, start, goal))

    def test_shifted_places(self):
        row = Row(10, move=2, add=3)
        for start in self.STATES:
            for goal in self.STATES:
                for shift in (-900, -1, 7, 600):
                    shifted = [((number[0], number[1] + shift if number[0] else 0), position + shift)
                               for number, position in (start, goal)]
                    self.assertEqual(distance(row, *shifted), distance(row, start, goal))

    def test_triangle_inequality_and_direction(self):
        for row in (Row(10), Row(10, move=5, last=4), Row(10, add=9)):
            costs = {(one, other): distance(row, one, other) for one in self.STATES for other in self.STATES}
            for one in self.STATES:
                for two in self.STATES:
                    self.assertEqual(costs[one, two], costs[two, one])
                    self.assertEqual(costs[one, two] == 0, one == two)
                    for three in self.STATES:
                        self.assertLessEqual(costs[one, three], costs[one, two] + costs[two, three])

    def test_small_steps_against_the_worth(self):
        row = Row(10, last=0)
        for one in range(0, 40, 7):
            for other in range(-30, 30, 7):
                start, goal = (make_number(10, one, 0), 0), (make_number(10, other, 0), 0)
                self.assertEqual(distance(row, start, goal), abs(worth(10, goal[0]) - worth(10, start[0])))


class ErrorsTest(unittest.TestCase):
    CALLS = {
        "distance": distance,
        "best_plan": best_plan,
        "shortest": shortest,
        "plan_cost": lambda row, start, goal: plan_cost(row, start, goal, None),
        "perform": lambda row, start, goal: perform(row, start, goal, None),
    }

    def check(self, value, row, start, goal):
        for name, call in self.CALLS.items():
            with self.subTest(name=name, value=value):
                with self.assertRaises(InvalidState) as caught:
                    call(row, start, goal)
                self.assertIs(caught.exception.value, value)

    def test_invalid_states(self):
        row = Row(10, first=-3, last=4)
        for value in NO_STATES:
            self.check(value, row, value, ZERO)
            self.check(value, row, ZERO, value)
            self.check(value, row, value, ((10, 0), 0))

    def test_states_of_other_rows(self):
        value = ((5, -1), 0)
        self.check(value, Row(10, first=0), value, ZERO)
        self.check(value, Row(10, first=0), ZERO, value)
        self.assertEqual(distance(Row(10, first=-1), ZERO, value), 7)


if __name__ == "__main__":
    unittest.main()
