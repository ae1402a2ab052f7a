"""Tables and their checker: point [9] and the section abacushead/tables.py."""

import random
import unittest

from abacushead.errors import InvalidLimit, InvalidState
from abacushead.rows import Row
from abacushead.shortest import distance
from abacushead.tables import check_table, make_table, table_range
from samples import LONGEST, NO_STATES, OTHER_KINDS, SMALL_ROWS, some_long_numbers, some_pairs, worth

ZERO = ((0, 0), 0)
NINE = ((9, 0), 0)
ROW = Row(10)
TABLE = [(0, None), (9, 1)]


def is_valid(row, start, goal, bound, table):
    """The three conditions of the document, word by word, for a list of pairs of integers or None."""
    made = worth(row.base, goal[0]) - worth(row.base, start[0])
    low, top = table_range(row, start, goal)
    near, far = sorted((start[1], goal[1]))
    costs = {}
    for place, (one, other) in zip(range(low, top + 1), table):
        value = made // worth(row.base, (1, place))
        costs[place] = {value: one, value + 1: other}
    if table[0][0] is None or table[0][0] > 0:
        return False
    for place in range(low, top + 1):
        for value, cost in costs[place].items():
            if cost is None:
                continue
            if place < top:
                for digit in range(1 - row.base, row.base):
                    if (value - digit) % row.base == 0:
                        after = costs[place + 1][(value - digit) // row.base]
                        if after is None or after > cost + row.add_cost * abs(digit):
                            return False
            moves = row.move_cost * (2 * (place - low) - (far - near))
            if place >= far and cost + row.add_cost * abs(value) + moves < bound:
                return False
    return True


class RangeTest(unittest.TestCase):
    def check(self, expected, row, start, goal):
        with self.subTest(settings=row.settings, start=start, goal=goal):
            self.assertEqual(table_range(row, start, goal), expected)
            self.assertIs(type(table_range(row, start, goal)), tuple)

    def test_example(self):
        self.check((0, 1), ROW, ZERO, NINE)

    def test_differences_of_either_sign(self):
        self.check((0, 1), ROW, NINE, ZERO)
        self.check((0, 3), ROW, ZERO, ((123, 0), 0))
        self.check((0, 3), ROW, ZERO, ((-123, 0), 0))
        self.check((0, 0), ROW, ZERO, ((-1, 0), 0))
        self.check((0, 1), ROW, ZERO, ((1, 0), 0))
        self.check((0, 2), ROW, ZERO, ((-1, 2), 0))
        self.check((0, 3), ROW, ZERO, ((1, 2), 0))
        self.check((0, 10), Row(2), ZERO, ((1023, 0), 0))
        self.check((0, 11), Row(2), ZERO, ((1, 10), 0))
        self.check((0, 10), Row(2), ZERO, ((-1, 10), 0))

    def test_exponents_below_the_positions(self):
        self.check((-5, 3), ROW, ((0, 0), 3), ((7, -5), 1))
        self.check((-7, 0), ROW, ZERO, ((-1, -7), 0))
        self.check((-1000, 1), ROW, ((7, -1000), 0), ((7, 0), 0))

    def test_positions_beyond_the_difference(self):
        self.check((-4, 9), ROW, ((0, 0), 9), ((7, 0), -4))
        self.check((-4, 9), ROW, ((0, 0), -4), ((7, 0), 9))
        self.check((2, 9), ROW, ((0, 0), 9), ((7, 4), 2))
        self.check((2, 5), ROW, ((0, 0), 2), ((7, 4), 2))

    def test_zero(self):
        for number in [(0, 0), (7, -5), (LONGEST, 1000)]:
            self.check((3, 3), ROW, (number, 3), (number, 3))
            self.check((-4, 9), ROW, (number, 9), (number, -4))
            self.check((-4, 9), ROW, (number, -4), (number, 9))
            self.check((-1000, 1000), ROW, (number, -1000), (number, 1000))

    def test_last_place_comes_earlier(self):
        self.check((0, 0), Row(10, last=0), ZERO, ((12345, 0), 0))
        self.check((0, 3), Row(10, last=3), ZERO, ((12345, 0), 0))
        self.check((0, 5), Row(10, last=5), ZERO, ((12345, 0), 0))
        self.check((0, 5), Row(10, last=6), ZERO, ((12345, 0), 0))
        self.check((0, 3), Row(10, last=3), ((0, 0), 3), ((12345, 0), 0))
        self.check((999, 1000), ROW, ((0, 0), 999), ((12345, 999), 999))
        self.check((1000, 1000), ROW, ((0, 0), 1000), ((7, 1000), 1000))
        self.check((0, 1000), ROW, ZERO, ((7, 1000), 0))
        self.check((-1000, -1000), Row(10, last=-1000), ((0, 0), -1000), ((7, 1000), -1000))

    def test_long_differences(self):
        self.check((0, 300), ROW, ZERO, ((LONGEST, 0), 0))
        self.check((0, 300), ROW, ZERO, ((-LONGEST, 0), 0))
        self.check((-1000, 1000), ROW, ((7, -1000), 0), ((LONGEST, 1000), 0))


class MakeTest(unittest.TestCase):
    def check(self, row, start, goal):
        table, cost = make_table(row, start, goal), distance(row, start, goal)
        low, top = table_range(row, start, goal)
        self.assertEqual((type(table), len(table)), (list, top - low + 1))
        for entry in table:
            self.assertEqual((type(entry), len(entry)), (tuple, 2))
            self.assertTrue(all(part is None or type(part) is int for part in entry))
        for bound in (cost, cost - 1, 0, -5, -(10 ** 399)):
            self.assertIs(check_table(row, start, goal, bound, table), True)
        for bound in (cost + 1, cost + 2, 10 ** 9 + cost):
            self.assertIs(check_table(row, start, goal, bound, table), False)
        self.assertTrue(is_valid(row, start, goal, cost, table))

    def test_small_numbers(self):
        for row in SMALL_ROWS:
            for start, goal in some_pairs(row, 1, 40):
                self.check(row, start, goal)
                self.check(row, start, start)

    def test_long_numbers(self):
        for row in (Row(2), Row(10, move=10 ** 6), Row(36, add=9), Row(10, last=7)):
            numbers = some_long_numbers(row.base, 16, 10)
            for one, other, position in zip(numbers, numbers[1:], [-1000, 7, 0, -500, 3] * 2):
                self.check(row, (one, position), (other, -position // 200))

    def test_edges(self):
        self.check(ROW, ((0, 0), 1000), ((LONGEST, 1000), 1000))
        self.check(ROW, ((7, -1000), -1000), ((-7, 1000), 1000))
        self.check(ROW, ZERO, ZERO)
        self.check(ROW, ((0, 0), -1000), ((0, 0), 1000))

    def test_results_are_new(self):
        table = make_table(ROW, ZERO, NINE)
        table.clear()
        self.assertTrue(check_table(ROW, ZERO, NINE, 4, make_table(ROW, ZERO, NINE)))


class CheckTest(unittest.TestCase):
    def check(self, expected, bound, *values, row=ROW, start=ZERO, goal=NINE):
        for value in values:
            with self.subTest(bound=bound, value=value):
                self.assertIs(check_table(row, start, goal, bound, value), expected)

    def test_example(self):
        self.check(True, 4, TABLE)
        self.check(False, 5, TABLE)

    def test_bounds_of_any_sign(self):
        for bound in (4, 3, 1, 0, -1, -4, -(10 ** 399)):
            self.check(True, bound, TABLE)
        self.check(False, 10 ** 399, TABLE)

    def test_raised_entries(self):
        self.check(False, 0, [(1, None), (10, 2)], [(1, None), (9, 1)], [(0, None), (10, 1)], [(0, None), (9, 2)])
        self.check(False, -9, [(0, None), (0, 2)], [(0, 0), (1, 1)], [(0, 0), (0, 1)])

    def test_lowered_entries(self):
        self.check(True, 4, [(0, None), (8, 1)], [(0, None), (2, 1)])
        self.check(False, 4, [(0, None), (1, 1)], [(0, None), (9, 0)])
        self.check(True, 3, [(0, None), (1, 1)], [(0, None), (9, 0)], [(-1, None), (8, 0)])
        self.check(False, 4, [(-1, None), (8, 0)])

    def test_negative_entries(self):
        self.check(True, -(10 ** 6), [(-5, None), (-5, -5)], [(0, None), (-1, -1)], [(-5, -5), (-7, -9)])
        self.check(False, 0, [(-5, None), (-5, -5)], [(0, None), (9, -4)])
        self.check(True, -1, [(0, None), (9, -4)])
        self.check(False, -(10 ** 6), [(-10, None), (0, 0)])

    def test_all_entries_lowered(self):
        for row in SMALL_ROWS:
            for start, goal in some_pairs(row, 2, 8):
                cost, table = distance(row, start, goal), make_table(row, start, goal)
                for change in (1, 2, 10 ** 30):
                    lowered = [tuple(None if part is None else part - change for part in entry) for entry in table]
                    self.check(True, cost - change, lowered, row=row, start=start, goal=goal)
                    self.check(False, cost - change + 1, lowered, row=row, start=start, goal=goal)

    def test_none(self):
        self.check(False, 0, [(None, None), (9, 1)], [(0, None), (None, 1)], [(0, None), (9, None)])
        self.check(False, 0, [(None, 0), (9, 1)], [(0, None), (None, None)], [(None, None), (None, None)])
        self.check(False, -(10 ** 9), [(None, None), (None, None)], [(0, None), (None, 0)])

    def test_second_entry_of_the_first_place(self):
        self.check(True, 4, [(0, 2), (9, 1)], [(0, 1), (9, 1)], [(0, 10 ** 399), (9, 1)])
        self.check(False, 4, [(0, 0), (9, 1)])
        # The value 1 of the second place ends with a single addition and two moves.
        self.check(True, -3, [(0, -6), (9, -6)])
        self.check(False, -2, [(0, -6), (9, -6)])

    def test_exchanged_entries(self):
        self.check(False, 0, [(None, 0), (1, 9)], [(0, None), (1, 9)], [(9, 1), (0, None)], [(None, 0), (9, 1)])

    def test_rows_more_or_less(self):
        self.check(False, 0, [], [(0, None)], [(0, None), (9, 1), (9, 1)], [(0, None)] + TABLE, TABLE + [(None, None)])
        self.check(False, 0, TABLE * 3, [(9, 1)])

    def test_other_kinds(self):
        self.check(False, 0, [[0, None], (9, 1)], [(0, None), [9, 1]], ((0, None), (9, 1)), [[0, None], [9, 1]])
        self.check(False, 0, [(False, None), (9, 1)], [(0, None), (9, True)], [(0, False), (9, 1)])
        self.check(False, 0, [(0, None), (True, 1)], [(0, None), (False, False)])
        self.check(False, 0, [("0", None), (9, 1)], [(0, None), ("9", "1")], ["00", "91"], "0091", [0, 9], [None, None])
        self.check(False, 0, [(0,), (9,)], [(0, None, 0), (9, 1, 0)], [(), ()], [(0, None), ()], [(0, None), (9,)])
        self.check(False, 0, [((0, None), (9, 1))], [TABLE], [[TABLE]], [((0,), None), (9, 1)], [(0, [None]), (9, 1)])
        self.check(False, 0, [(0.0, None), (9, 1)], [(0, None), (9, 1.5)], {0: (0, None), 1: (9, 1)})
        self.check(False, 0, *OTHER_KINDS)
        self.check(False, 0, *[[value, (9, 1)] for value in OTHER_KINDS])
        self.check(False, 0, *[[(0, None), (9, value)] for value in OTHER_KINDS if type(value) is not int])

    def test_tables_of_other_states(self):
        for row in SMALL_ROWS:
            pairs = some_pairs(row, 3, 12)
            tables = [make_table(row, *pair) for pair in pairs]
            for start, goal in pairs:
                for table in tables:
                    for bound in (1, 5, 40):
                        if check_table(row, start, goal, bound, table):
                            self.assertGreaterEqual(distance(row, start, goal), bound)
        self.check(False, 0, TABLE, goal=((8, 0), 1))
        self.check(True, 4, TABLE, goal=((9, 0), 0))
        self.check(False, 2, [(0, None), (5, 5)], goal=((8, 0), 0))

    def test_against_the_words_of_the_document(self):
        chance = random.Random(17)
        for row in SMALL_ROWS:
            for start, goal in some_pairs(row, 4, 12):
                cost, table = distance(row, start, goal), make_table(row, start, goal)
                for _ in range(12):
                    altered = list(table)
                    for _ in range(chance.randint(1, 2)):
                        at, side = chance.randrange(len(table)), chance.randint(0, 1)
                        entry = list(altered[at])
                        entry[side] = chance.choice([None, 0, (entry[side] or 0) + chance.choice([-9, -1, 1, 9])])
                        altered[at] = tuple(entry)
                    for bound in (cost, cost - 1, cost - 10, cost + 1):
                        expected = is_valid(row, start, goal, bound, altered)
                        self.check(expected, bound, altered, row=row, start=start, goal=goal)
                        if expected:
                            self.assertGreaterEqual(cost, bound)

    def test_equal_states(self):
        self.check(True, 0, [(0, None)], goal=ZERO)
        self.check(False, 1, [(0, None)], [(0, 5)], goal=ZERO)
        self.check(True, -1, [(-1, None)], [(0, -2)], goal=ZERO)
        self.check(False, -1, [(1, None)], [(None, None)], [], goal=ZERO)
        self.check(True, 2, [(0, None), (0, None), (0, None)], goal=((0, 0), 2))
        self.check(False, 2, [(0, None), (0, None), (1, None)], [(0, None), (0, None)], goal=((0, 0), 2))
        self.check(False, 3, [(0, None), (0, None), (0, None)], goal=((0, 0), 2))

    def test_arguments_stay(self):
        table = list(TABLE)
        check_table(ROW, ZERO, NINE, 4, table)
        self.assertEqual(table, TABLE)


class ErrorsTest(unittest.TestCase):
    CALLS = {
        "table_range": table_range,
        "make_table": make_table,
        "check_table": lambda row, start, goal: check_table(row, start, goal, None, None),
    }

    def test_invalid_states(self):
        row = Row(10, first=-3, last=4)
        for value in NO_STATES:
            for name, call in self.CALLS.items():
                for start, goal in [(value, ZERO), (ZERO, value), (value, ((20, 0), 0))]:
                    with self.subTest(name=name, value=value):
                        with self.assertRaises(InvalidState) as caught:
                            call(row, start, goal)
                        self.assertIs(caught.exception.value, value)

    def test_invalid_bounds(self):
        for bound in [True, False, None, "4", "", 4.0, (4,), [4], {}, object(), b"4"]:
            for value in (TABLE, None, []):
                with self.subTest(bound=bound):
                    with self.assertRaises(InvalidLimit) as caught:
                        check_table(ROW, ZERO, NINE, bound, value)
                    self.assertIs(caught.exception.value, bound)

    def test_order(self):
        with self.assertRaises(InvalidState) as caught:
            check_table(ROW, ZERO, ((10, 0), 0), True, TABLE)
        self.assertEqual(caught.exception.value, ((10, 0), 0))


if __name__ == "__main__":
    unittest.main()
