"""Plans and the sequences that perform them: point [8]."""

import random
import unittest

from abacushead.errors import InvalidTarget
from abacushead.rows import Row
from abacushead.running import cost_of, run, visited
from abacushead.sequences import is_sequence
from abacushead.shortest import best_plan, distance, perform, plan_cost, shortest
from samples import LONGEST, OTHER_KINDS, SMALL_ROWS, some_long_numbers, some_states, worth

ZERO = ((0, 0), 0)
NINE = ((9, 0), 0)
ROW = Row(10, first=-2, last=4)

NO_PLANS = [
    [0, 1, [-1, 1]], (0, 1, (-1, 1)), (0, 1), (0, 1, [-1, 1], 0), (0, 1, [-1, 1], []), (), [], ([-1, 1],), [-1, 1],
    (False, 1, [-1, 1]), (0, True, [-1, 1]), (0, 1, [-1, True]), (0, False, [9]), (0, 0, [True]),
    (0, 1, [-1, 2]), (0, 1, [1, -1]), (0, 1, [-1, 0]), (0, 0, [8]), (0, 0, [-9]), (-1, 0, [9, 0]),
    (0, 1, [-1]), (0, 1, [-1, 1, 0]), (0, 2, [-1, 1]), (0, 1, []), (0, 0, []), (-1, 1, [-1, 1]), (0, 0, [9, 0]),
    (1, 1, [1]), (1, 2, [9, 0]), (-1, -1, [90]), (-2, -1, [900, 0]), (1, 0, []), (1, 0, [9]), (2, 1, []),
    (-3, 0, [0, 0, 0, 9]), (0, 5, [9, 0, 0, 0, 0, 0]), (-3, 5, [0, 0, 0, 9, 0, 0, 0, 0, 0]), (-1001, 0, [9]),
    (0, 1001, [9] + [0] * 1001), (10 ** 399, 0, [9]), (0, 10 ** 399, [9]),
    (0, 1, None), (0, 1, "11"), (0, 1, {0: -1, 1: 1}), (None, 1, [-1, 1]), (0, None, [-1, 1]), ("0", 1, [-1, 1]),
    (0, "1", [-1, 1]), (0, 1, [-1, None]), (0, 1, ["-1", 1]), (0, 1, [-1, "1"]), (0, 1, [[-1], 1]), (0, 1, [(-1,), 1]),
    ((0,), 1, [-1, 1]), (0, 1, [-1, [1]]), (0, 1, [[-1, 1]]), ((0, 1, [-1, 1]),), [(0, 1, [-1, 1])],
    "(0, 1, [-1, 1])", (0.5, 1, [-1, 1]), (0, 1, [-1, object()]),
] + OTHER_KINDS


def some_plan(row, start, goal, chance):
    """A plan with places to spare, and with carries moved up and down."""
    least = min(start[1], goal[1], start[0][1], goal[0][1])
    low = least - chance.randint(0, 3)
    high = max(start[1], goal[1]) + chance.randint(0, 3)
    low = low if row.first is None else max(low, row.first)
    high = high if row.last is None else min(high, row.last)
    rest = (worth(row.base, goal[0]) - worth(row.base, start[0])) / worth(row.base, (1, low))
    digits = []
    for place in range(low, high):
        digit = int(rest) % row.base + row.base * chance.choice([0, 0, -1, -1, 1, -50, 10 ** 30])
        digits.append(digit)
        rest = (rest - digit) / row.base
    return (low, high, digits + [int(rest)])


class PlansCase(unittest.TestCase):
    def check_plan(self, row, start, goal, plan):
        """The form of a plan, its sum and its cost, counted in a plain way."""
        low, high, digits = plan
        self.assertEqual([type(part) for part in plan], [int, int, list])
        self.assertEqual({type(digit) for digit in digits}, {int})
        self.assertTrue(row.has_place(low) and row.has_place(high))
        self.assertTrue(low <= min(start[1], goal[1]) and high >= max(start[1], goal[1]))
        self.assertEqual(len(digits), high - low + 1)
        total = sum(digit * row.base ** at for at, digit in enumerate(digits))
        made = worth(row.base, goal[0]) - worth(row.base, start[0])
        self.assertEqual(total * worth(row.base, (1, low)), made)
        cost = row.add_cost * sum(abs(digit) for digit in digits)
        cost += row.move_cost * (2 * (high - low) - abs(goal[1] - start[1]))
        self.assertEqual(plan_cost(row, start, goal, plan), cost)
        return cost

    def check_way(self, row, start, goal, way, cost):
        """A sequence leads from start to goal within the row at this cost."""
        self.assertTrue(is_sequence(way))
        self.assertEqual(run(row, start, way), goal)
        self.assertEqual(cost_of(row, way), cost)

    def pairs(self, row, seed, count):
        states = some_states(row, seed, count)
        return [(one, other) for one in states for other in states]


class BestPlanTest(PlansCase):
    def test_example(self):
        self.assertEqual(best_plan(Row(10), ZERO, NINE), (0, 1, [-1, 1]))

    def test_cost_is_the_distance(self):
        for row in SMALL_ROWS:
            for start, goal in self.pairs(row, 1, 14):
                plan = best_plan(row, start, goal)
                self.assertEqual(self.check_plan(row, start, goal, plan), distance(row, start, goal))

    def test_equal_states_and_moves_alone(self):
        self.assertEqual(plan_cost(Row(10), NINE, NINE, best_plan(Row(10), NINE, NINE)), 0)
        plan = best_plan(Row(10, move=4), ((7, -9), 5), ((7, -9), -3))
        self.assertEqual(self.check_plan(Row(10, move=4), ((7, -9), 5), ((7, -9), -3), plan), 32)

    def test_long_numbers(self):
        for row in (Row(2), Row(10, move=10 ** 6), Row(36, add=9), Row(10, last=7)):
            numbers = some_long_numbers(row.base, 12, 12)
            for one, other, position in zip(numbers, numbers[1:], [-1000, 7, 0, -500, 3] * 3):
                plan = best_plan(row, (one, position), (other, -position // 200))
                cost = self.check_plan(row, (one, position), (other, -position // 200), plan)
                self.assertEqual(cost, distance(row, (one, position), (other, -position // 200)))

    def test_results_are_new(self):
        plan = best_plan(Row(10), ZERO, NINE)
        plan[2].append(5)
        self.assertEqual(best_plan(Row(10), ZERO, NINE), (0, 1, [-1, 1]))


class PlanCostTest(PlansCase):
    def test_examples(self):
        self.assertEqual(plan_cost(Row(10), ZERO, NINE, (0, 0, [9])), 9)
        self.assertEqual(plan_cost(Row(10), ZERO, NINE, (0, 1, [-1, 1])), 4)
        self.assertEqual(plan_cost(Row(10, move=2, add=3), ZERO, NINE, (0, 1, [-1, 1])), 10)
        self.assertEqual(plan_cost(Row(10), ZERO, NINE, (0, 1, [9, 0])), 11)
        self.assertEqual(plan_cost(Row(10), ZERO, NINE, (0, 1, [19, -1])), 22)
        self.assertEqual(plan_cost(Row(10), ZERO, NINE, (-1, 1, [0, -1, 1])), 6)
        self.assertEqual(plan_cost(Row(10), ZERO, NINE, (-1, 0, [90, 0])), 92)
        self.assertEqual(plan_cost(Row(10), ZERO, NINE, (-1, 0, [-10, 10])), 22)
        self.assertEqual(plan_cost(ROW, ZERO, NINE, (-2, 4, [0, 0, 9, 0, 0, 0, 0])), 21)

    def test_digits_of_any_length(self):
        for size in (10 ** 30, 10 ** 300, 10 ** 390):
            plan = (0, 2, [9 - 100 * size, 10 * size - 10, 1])
            self.assertEqual(plan_cost(Row(10), ZERO, NINE, plan), 110 * size - 18 + 4)
            plan = (0, 2, [9 - 100 * size, 10 * size - 10, 2])
            self.assertIsNone(plan_cost(Row(10), ZERO, NINE, plan))
            plan = (0, 2, [9 - 100 * size, 10 * size, 0])
            self.assertEqual(plan_cost(Row(10), ZERO, NINE, plan), 110 * size - 9 + 4)
            plan = (0, 2, [9 - 100 * size, 0, size])
            self.assertEqual(plan_cost(Row(10), ZERO, NINE, plan), 101 * size - 9 + 4)
        plan = best_plan(Row(10, last=-1000), ((0, 0), -1000), ((7, 1000), -1000))
        self.assertEqual(plan, (-1000, -1000, [7 * 10 ** 2000]))
        self.assertEqual(plan_cost(Row(10, last=-1000), ((0, 0), -1000), ((7, 1000), -1000), plan), 7 * 10 ** 2000)

    def test_plans_of_any_kind(self):
        chance = random.Random(13)
        for row in SMALL_ROWS:
            for start, goal in self.pairs(row, 2, 9):
                for _ in range(3):
                    plan = some_plan(row, start, goal, chance)
                    cost = self.check_plan(row, start, goal, plan)
                    self.assertGreaterEqual(cost, distance(row, start, goal))

    def test_no_plans(self):
        for value in NO_PLANS:
            with self.subTest(value=value):
                self.assertIsNone(plan_cost(ROW, ZERO, NINE, value))

    def test_plans_of_other_states(self):
        plan = (0, 1, [-1, 1])
        for start, goal in [(ZERO, ((8, 0), 0)), (NINE, ZERO), (ZERO, ((9, 1), 0)), (ZERO, ((9, 0), 2)),
                            (((0, 0), -1), NINE), (ZERO, ((9, 0), -1)), (((0, 0), 2), NINE), (ZERO, ZERO)]:
            self.assertIsNone(plan_cost(ROW, start, goal, plan))
        self.assertEqual(plan_cost(ROW, ((1, 0), 0), ((1, 1), 1), plan), 3)
        self.assertEqual(plan_cost(ROW, ((-9, 0), 1), ZERO, plan), 3)

    def test_altered_digits(self):
        for row in SMALL_ROWS[:6]:
            for start, goal in self.pairs(row, 3, 6):
                low, high, digits = best_plan(row, start, goal)
                for at in range(len(digits)):
                    for change in (-1, 1, row.base, 10 ** 50):
                        other = digits[:at] + [digits[at] + change] + digits[at + 1:]
                        self.assertIsNone(plan_cost(row, start, goal, (low, high, other)))

    def test_sums_below_the_units_of_the_difference(self):
        self.assertIsNone(plan_cost(Row(10), ((0, 0), 3), ((5, 0), 3), (3, 3, [0])))
        self.assertIsNone(plan_cost(Row(10), ((0, 0), 3), ((5, 0), 3), (1, 3, [0, 5, 0])))
        self.assertEqual(plan_cost(Row(10), ((0, 0), 3), ((5, 0), 3), (0, 3, [5, 0, 0, 0])), 11)

    def test_arguments_stay(self):
        plan = (0, 1, [-1, 1])
        plan_cost(Row(10), ZERO, NINE, plan)
        self.assertEqual(plan, (0, 1, [-1, 1]))


class PerformTest(PlansCase):
    def test_examples(self):
        self.check_way(Row(10), ZERO, NINE, perform(Row(10), ZERO, NINE, (0, 0, [9])), 9)
        self.check_way(Row(10), ZERO, NINE, perform(Row(10), ZERO, NINE, (0, 1, [-1, 1])), 4)
        self.check_way(ROW, ZERO, NINE, perform(ROW, ZERO, NINE, (-2, 4, [0, 0, 9, 0, 0, 0, 0])), 21)
        self.assertEqual(perform(Row(10), ZERO, ZERO, (0, 0, [0])), [])
        self.assertEqual(perform(Row(10), ((5, 0), 2), ((5, 0), 0), (0, 2, [0, 0, 0])), [("L", 2)])

    def test_plans_of_any_kind(self):
        chance = random.Random(14)
        for row in SMALL_ROWS:
            for start, goal in self.pairs(row, 4, 9):
                for _ in range(3):
                    plan = some_plan(row, start, goal, chance)
                    way = perform(row, start, goal, plan)
                    self.check_way(row, start, goal, way, self.check_plan(row, start, goal, plan))
                    least, greatest = visited(start, way)
                    self.assertTrue(plan[0] <= least and greatest <= plan[1])

    def test_digits_of_any_length(self):
        size = 10 ** 390
        plan = (-1, 2, [0, 9 - 100 * size, 0, size])
        self.check_way(ROW, ZERO, NINE, perform(ROW, ZERO, NINE, plan), 101 * size - 9 + 6)

    def test_no_plans(self):
        for value in NO_PLANS:
            with self.subTest(value=value):
                with self.assertRaises(InvalidTarget) as caught:
                    perform(ROW, ZERO, NINE, value)
                self.assertIs(caught.exception.value, value)

    def test_arguments_stay_and_results_are_new(self):
        plan = (0, 1, [-1, 1])
        perform(Row(10), ZERO, NINE, plan).append(("A", 1))
        self.assertEqual(plan, (0, 1, [-1, 1]))
        self.assertEqual(len(perform(Row(10), ZERO, NINE, plan)), 4)


class ShortestTest(PlansCase):
    def test_example(self):
        self.assertEqual(shortest(Row(10), ZERO, ((9, 0), 1)), [("S", 1), ("R", 1), ("A", 1)])

    def test_small_numbers(self):
        for row in SMALL_ROWS:
            for start, goal in self.pairs(row, 5, 14):
                self.check_way(row, start, goal, shortest(row, start, goal), distance(row, start, goal))

    def test_equal_states(self):
        self.assertEqual(shortest(Row(10), NINE, NINE), [])
        self.assertIsNot(shortest(Row(10), NINE, NINE), shortest(Row(10), NINE, NINE))

    def test_moves_alone(self):
        self.assertEqual(shortest(Row(10), ((5, -3), -1000), ((5, -3), 1000)), [("R", 2000)])
        self.assertEqual(shortest(Row(10), ((5, -3), 1000), ((5, -3), -1000)), [("L", 2000)])

    def test_long_numbers(self):
        for row in (Row(2), Row(10, move=10 ** 6), Row(36, add=9), Row(10, last=7)):
            numbers = some_long_numbers(row.base, 15, 12)
            for one, other, position in zip(numbers, numbers[1:], [-1000, 7, 0, -500, 3] * 3):
                start, goal = (one, position), (other, -position // 200)
                self.check_way(row, start, goal, shortest(row, start, goal), distance(row, start, goal))

    def test_places_at_the_limits(self):
        for row in (Row(10), Row(10, first=-1000, last=1000)):
            for start, goal in [(((0, 0), 1000), ((LONGEST, 1000), 1000)), (((9, -1000), -1000), ((-9, 1000), 1000)),
                                (((9, 1000), -1000), ((LONGEST, -1000), 1000))]:
                self.check_way(row, start, goal, shortest(row, start, goal), distance(row, start, goal))

    def test_results_are_new(self):
        way = shortest(Row(10), ZERO, ((9, 0), 1))
        way.clear()
        self.assertEqual(shortest(Row(10), ZERO, ((9, 0), 1)), [("S", 1), ("R", 1), ("A", 1)])


if __name__ == "__main__":
    unittest.main()
