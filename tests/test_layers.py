"""Counting: points [8] and [3] (f), and the section abacushead/layers.py."""

import time
import unittest

from abacushead.errors import InvalidLimit, InvalidState, LimitExceeded
from abacushead.layers import greatest, layers
from abacushead.numbers import make_number
from abacushead.rows import Row
from abacushead.shortest import distance
from abacushead.states import is_state
from cases import NO_WHOLES, ErrorsCase
from samples import LONGEST, NO_STATES, SMALL_ROWS, form_of_worth, searched, worth

ZERO = ((0, 0), 0)
STARTS = [ZERO, ((7, 0), 0), ((-1, 1), 0), ((5, -1), 1), ((-13, 0), 1)]

ONE_PLACE = [Row(10, first=0, last=0), Row(2, first=0, last=0, move=5, add=2), Row(36, first=0, last=0, add=12)]
DEAR_ROWS = [Row(2, move=3), Row(10, add=4), Row(3, move=5, add=2, first=0), Row(10, move=12), Row(10, add=12),
             Row(10, move=13, add=13), Row(2, move=1000000, add=1), Row(2, move=2, add=1000000, last=3)]


def starts_of(row):
    return [state for state in STARTS if is_state(row, state)]


class LayersTest(ErrorsCase):
    def check_search(self, row, start, budget):
        """The numbers of states by a search step by step."""
        found = searched(row, start, budget)
        expected = [0] * (budget + 1)
        for cost in found.values():
            expected[cost] += 1
        if len(found) > 3000:
            self.check_error(LimitExceeded, "limit", 3000, layers, row, start, budget)
            return False
        counts = layers(row, start, budget)
        self.assertEqual(counts, expected, (row.settings, start, budget))
        self.assertEqual([type(counts)] + [type(count) for count in counts], [list] + [int] * (budget + 1))
        return True

    def test_example(self):
        self.assertEqual(layers(Row(10), ZERO, 3), [1, 4, 12, 36])

    def test_against_a_search(self):
        for row in SMALL_ROWS:
            for start in starts_of(row):
                for budget in range(7):
                    self.check_search(row, start, budget)

    def test_rows_of_one_place_and_dear_operations(self):
        for row in ONE_PLACE + DEAR_ROWS:
            for start in starts_of(row):
                for budget in range(13):
                    self.check_search(row, start, budget)

    def test_narrow_rows(self):
        for row in (Row(2, first=0, last=1), Row(10, first=-1, last=0), Row(3, first=0, last=2, move=2)):
            for start in starts_of(row):
                for budget in range(13):
                    self.check_search(row, start, budget)

    def test_known_counts(self):
        self.assertEqual(layers(Row(10), ZERO, 0), [1])
        self.assertEqual(layers(Row(10, first=0, last=0), ZERO, 12), [1] + [2] * 12)
        self.assertEqual(layers(Row(10, move=13, add=13), ZERO, 12), [1] + [0] * 12)
        self.assertEqual(layers(Row(10, move=12, add=13), ZERO, 12), [1] + [0] * 11 + [2])
        self.assertEqual(layers(Row(10, first=0, move=12, add=13), ZERO, 12), [1] + [0] * 11 + [1])
        self.assertEqual(layers(Row(10, add=1000000), ZERO, 5), [1, 2, 2, 2, 2, 2])
        self.assertEqual(layers(Row(10, add=1000000, last=2), ZERO, 5), [1, 2, 2, 1, 1, 1])

    def test_more_than_three_thousand_states(self):
        some = [self.check_search(Row(10), ZERO, budget) for budget in range(10)]
        self.assertEqual(some, [True] * 8 + [False] * 2)
        for budget in (8, 10, 12):
            self.check_error(LimitExceeded, "limit", 3000, layers, Row(10), ZERO, budget)
            self.check_error(LimitExceeded, "limit", 3000, layers, Row(36), ((LONGEST, 0), -5), budget)

    def test_near_three_thousand_states(self):
        self.assertEqual(sum(layers(Row(14, first=0, last=5), ZERO, 8)), 3000)
        self.assertEqual(sum(layers(Row(11, first=0, last=2), ZERO, 12)), 2993)
        self.assertIs(self.check_search(Row(14, first=0, last=5), ZERO, 8), True)
        self.assertEqual(len(searched(Row(13, move=2, first=0, last=3), ZERO, 12)), 3002)
        self.assertIs(self.check_search(Row(13, move=2, first=0, last=3), ZERO, 12), False)
        for row in (Row(36, first=0, last=2), Row(2, first=0, last=3), Row(36, first=0, last=3), Row(3, first=0)):
            for budget in (7, 8, 9, 10, 11, 12):
                self.check_search(row, ZERO, budget)

    def test_places_beyond_the_limits(self):
        self.assertEqual(layers(Row(10, add=1000000), ((0, 0), 998), 5), [1, 2, 2, 1, 1, 1])
        self.assertEqual(layers(Row(10, add=1000000), ((0, 0), -1000), 5), [1] * 6)
        self.assertEqual(layers(Row(10), ((0, 0), 1000), 6), layers(Row(10, last=0), ZERO, 6))
        self.assertEqual(layers(Row(10), ((0, 0), -999), 6), layers(Row(10, first=-1), ZERO, 6))
        self.assertEqual(layers(Row(10, first=-1000, last=1000), ((0, 0), -999), 6), layers(Row(10), ((0, 0), -999), 6))

    def test_starts_with_any_number(self):
        for row in (Row(10), Row(10, move=2, add=3, last=1)):
            expected = layers(row, ZERO, 6)
            for number in ((LONGEST, 0), (-LONGEST, 0), (LONGEST, -1000), (LONGEST, 1000), (-1, 1000), (7, -1000)):
                self.assertEqual(layers(row, (number, 0), 6), expected)
        self.assertEqual(layers(Row(10), ((9, 1000), 1000), 4), layers(Row(10, last=0), ZERO, 4))

    def test_results_are_new(self):
        for _ in range(3):
            counts = layers(Row(10), ZERO, 2)
            self.assertEqual(counts, [1, 4, 12])
            counts.clear()

    def test_callers_need_not_wait(self):
        for row in (Row(36), Row(2), Row(36, move=3), Row(36, first=-1, last=1)):
            for start in (ZERO, ((LONGEST, -1000), -1000)):
                if is_state(row, start):
                    began = time.perf_counter()
                    try:
                        layers(row, start, 12)
                    except LimitExceeded:
                        pass
                    self.assertLess(time.perf_counter() - began, 1)

    def test_errors(self):
        for value in NO_STATES:
            self.check_same_error(InvalidState, "value", value, layers, Row(10, first=-3, last=4), value, 3)
            self.check_same_error(InvalidState, "value", value, layers, Row(10, first=-3, last=4), value, 13)
        for value in NO_WHOLES + [None, -1, 13, 10 ** 399, -(10 ** 399)]:
            self.check_same_error(InvalidLimit, "value", value, layers, Row(10), ZERO, value)


class GreatestTest(ErrorsCase):
    def check_search(self, row, start, budget):
        found = searched(row, start, budget)
        most = max(worth(row.base, state[0]) for state in found)
        expected = min((state for state in found if worth(row.base, state[0]) == most), key=lambda state: state[1])
        self.assertEqual(greatest(row, start, budget), expected, (row.settings, start, budget))

    def check_known(self, row, start, budget):
        """The number by all places and counts, the position by the distances."""
        gains, place = [0], start[1]
        while row.has_place(place) and row.move_cost * (place - start[1]) <= budget:
            count = (budget - row.move_cost * (place - start[1])) // row.add_cost
            gains.append(count * worth(row.base, (1, place)))
            place += 1
        expected = form_of_worth(row.base, worth(row.base, start[0]) + max(gains))
        if abs(expected[0]) > LONGEST:
            self.check_error(LimitExceeded, "limit", 300, greatest, row, start, budget)
            return
        number, position = greatest(row, start, budget)
        self.assertTrue(is_state(row, (number, position)))
        self.assertEqual(number, expected)
        self.assertLessEqual(distance(row, start, (number, position)), budget)
        for before in range(position - 1, max(-1001, position - 200), -7):
            if row.has_place(before):
                self.assertGreater(distance(row, start, (number, before)), budget)

    def test_example(self):
        self.assertEqual(greatest(Row(10), ZERO, 5), ((1, 4), 4))

    def test_against_a_search(self):
        for row in SMALL_ROWS:
            for start in starts_of(row):
                for budget in range(8):
                    self.check_search(row, start, budget)

    def test_dear_operations_against_a_search(self):
        for row in ONE_PLACE + DEAR_ROWS + [Row(2, first=-1, last=2), Row(3, move=2, first=-2, last=2)]:
            for start in starts_of(row):
                for budget in range(17):
                    self.check_search(row, start, budget)

    def test_budgets_up_to_1000(self):
        for row in (Row(2), Row(10), Row(36), Row(2, move=2), Row(3, move=7, add=4), Row(2, add=9), Row(10, last=40),
                    Row(2, first=-5, last=5), Row(2, move=50, add=20), Row(10, move=1000), Row(10, move=1001)):
            for start in [ZERO, ((-999, 0), 2), ((5, -1), -3), ((-1, 0), -5)]:
                if is_state(row, start):
                    for budget in (0, 1, 6, 19, 57, 100, 249):
                        self.check_known(row, start, budget)

    def test_long_budgets(self):
        for row in (Row(2, move=5, add=3), Row(10, move=7, add=4), Row(10, move=6), Row(36, move=9, add=30)):
            for budget in (998, 999, 1000):
                self.check_known(row, ZERO, budget)

    def test_several_ways_to_the_greatest_number(self):
        # Two ones at a place are a one at the next place of a row with base 2.
        self.assertEqual(greatest(Row(2), ZERO, 2), ((1, 1), 0))
        self.assertEqual(greatest(Row(2), ZERO, 3), ((1, 2), 1))
        self.assertEqual(greatest(Row(2), ZERO, 1000), ((1, 999), 998))
        self.assertEqual(greatest(Row(3, move=2), ZERO, 3), ((1, 1), 0))
        self.assertEqual(greatest(Row(2), ((-1, 1), 0), 2), ((0, 0), 0))

    def test_budgets_that_are_left_over(self):
        # What does not suffice for a further addition goes into moves to the left.
        self.assertEqual(greatest(Row(10, add=10), ZERO, 9), ((0, 0), -9))
        self.assertEqual(greatest(Row(10, add=10, first=-4), ZERO, 9), ((0, 0), -4))
        self.assertEqual(greatest(Row(10, add=10, first=0), ((7, 3), 0), 9), ((7, 3), 0))
        self.assertEqual(greatest(Row(10, add=10, move=2), ((7, 3), 5), 9), ((7, 3), 1))
        self.assertEqual(greatest(Row(10, add=10, last=0), ZERO, 19), ((1, 0), -9))
        self.assertEqual(greatest(Row(10, add=10, move=7, last=1), ZERO, 24), ((1, 1), 0))
        self.assertEqual(greatest(Row(10, add=10, move=7, last=0), ZERO, 27), ((2, 0), -1))
        self.assertEqual(greatest(Row(10, add=1000000), ZERO, 1000), ((0, 0), -1000))
        self.assertEqual(greatest(Row(10, add=1000000), ((0, 0), -500), 1000), ((0, 0), -1000))
        self.assertEqual(greatest(Row(10, add=1000000, first=-700), ((0, 0), -500), 1000), ((0, 0), -700))

    def test_budgets_too_small_for_a_move(self):
        self.assertEqual(greatest(Row(10, move=8), ZERO, 7), ((7, 0), 0))
        self.assertEqual(greatest(Row(10, move=1001), ((5, 0), 3), 1000), ((1000005, 0), 3))
        self.assertEqual(greatest(Row(10, move=9, add=9), ((5, 0), 3), 8), ((5, 0), 3))

    def test_no_budget(self):
        for state in (ZERO, ((LONGEST, 1000), 1000), ((-7, -1000), -1000)):
            self.assertEqual(greatest(Row(10), state, 0), state)

    def test_last_places(self):
        self.assertEqual(greatest(Row(10), ((0, 0), 1000), 7), ((7, 1000), 1000))
        self.assertEqual(greatest(Row(10), ((0, 0), 999), 7), ((6, 1000), 1000))
        self.assertEqual(greatest(Row(10, last=3), ZERO, 1000), ((997, 3), 3))
        self.assertEqual(greatest(Row(10, first=3, last=3), ((0, 0), 3), 1000), ((1, 6), 3))

    def test_negative_and_long_numbers(self):
        self.assertEqual(greatest(Row(10), ((-1, 4), 0), 5), ((0, 0), 4))
        self.assertEqual(greatest(Row(10), ((-LONGEST, 0), 0), 5), ((-LONGEST + 10 ** 4, 0), 4))
        self.assertEqual(greatest(Row(10, last=0), ((LONGEST - 5, 0), 0), 5), ((LONGEST, 0), 0))
        self.assertEqual(greatest(Row(10, last=0), ((LONGEST - 4, 0), 0), 5), ((1, 300), 0))

    def test_numbers_out_of_range(self):
        self.check_error(LimitExceeded, "limit", 300, greatest, Row(10, last=0), ((LONGEST - 3, 0), 0), 5)
        self.check_error(LimitExceeded, "limit", 300, greatest, Row(10), ((1, -1000), 0), 5)
        self.check_error(LimitExceeded, "limit", 300, greatest, Row(10, last=4), ((-1, 1000), 1), 1)
        self.check_error(LimitExceeded, "limit", 1000, greatest, Row(10), ((9, 1000), 1000), 1)
        self.check_error(LimitExceeded, "limit", 1000, greatest, Row(2), ((1, 1000), 1000), 1)
        self.check_error(LimitExceeded, "limit", 300, greatest, Row(10), ((1, 0), 0), 1000)
        self.assertEqual(greatest(Row(10), ZERO, 1000), ((1, 999), 999))

    def test_callers_need_not_wait(self):
        for base in (2, 10, 36):
            for start in (ZERO, ((0, 0), -1000), ((-7, 1000), 1)):
                began = time.perf_counter()
                try:
                    greatest(Row(base), start, 1000)
                except LimitExceeded:
                    pass
                self.assertLess(time.perf_counter() - began, 1)

    def test_errors(self):
        for value in NO_STATES:
            self.check_same_error(InvalidState, "value", value, greatest, Row(10, first=-3, last=4), value, 3)
            self.check_same_error(InvalidState, "value", value, greatest, Row(10, first=-3, last=4), value, -1)
        for value in NO_WHOLES + [None, -1, 1001, 10 ** 399, -(10 ** 399)]:
            self.check_same_error(InvalidLimit, "value", value, greatest, Row(10), ZERO, value)
            self.check_same_error(InvalidLimit, "value", value, greatest, Row(10), ((9, 1000), 1000), value)


class MakeNumberTest(unittest.TestCase):
    def test_known_gains(self):
        for base in (2, 10, 36):
            for budget in range(3, 30):
                gain = max(count * base ** (budget - count) for count in range(1, budget + 1))
                self.assertEqual(greatest(Row(base), ZERO, budget)[0], make_number(base, gain, 0))


if __name__ == "__main__":
    unittest.main()
