"""Targets: points [8] and [3] (g), and the section abacushead/targets.py."""

import heapq
import random
import time
import unittest

from abacushead.errors import InvalidRow, InvalidState, InvalidTarget
from abacushead.numbers import is_number, make_number
from abacushead.rows import Row
from abacushead.running import cost_of
from abacushead.sequences import is_sequence
from abacushead.shortest import distance
from abacushead.states import is_state
from abacushead.targets import to_interval, to_number, to_residue
from cases import NO_WHOLES, WaysCase
from samples import (LONGEST, NO_NUMBERS, NO_STATES, SMALL_ROWS, performed, some_long_numbers, some_states, text_of,
                     worth)

ZERO = ((0, 0), 0)

NUMBERS = [(0, 0), (1, 0), (-1, 0), (9, 0), (-19, 0), (95, 0), (1, 3), (-7, -2), (123, 1), (99999, -2), (1001, -1)]


def numbers_of(base):
    return sorted({make_number(base, *number) for number in NUMBERS})


def places_of(row):
    return [place for place in range(-1000, 1001) if row.has_place(place)]


class NumberTest(WaysCase):
    def check_number(self, row, start, number, places):
        """The least distance to one of the places, and the least place with it."""
        expected = min((distance(row, start, (number, place)), place) for place in places if row.has_place(place))
        found = to_number(row, start, number)
        self.assertEqual(found, expected, (row.settings, start, number))
        self.assertEqual([type(found), type(found[0]), type(found[1])], [tuple, int, int])

    def test_example(self):
        self.assertEqual(to_number(Row(10, first=0), ZERO, (9, 0)), (3, 1))

    def test_against_each_position(self):
        for row in SMALL_ROWS:
            for start in some_states(row, 41, 5):
                for number in numbers_of(row.base):
                    if is_state(row, (number, start[1])):
                        self.check_number(row, start, number, range(-14, 15))

    def test_the_same_number(self):
        for row in (Row(10), Row(2, move=7), Row(10, first=0)):
            for start in [ZERO, ((7, 0), 5), ((LONGEST, 3), 900)]:
                self.assertEqual(to_number(row, start, start[0]), (0, start[1]))

    def test_several_positions(self):
        # As far to the left as to the right.
        self.assertEqual(to_number(Row(10), ((0, 0), 1), (101, 0)), (5, 0))
        self.assertEqual(to_number(Row(10), ((0, 0), 1), (1001, 0)), (6, 3))
        self.assertEqual(to_number(Row(10), ((0, 0), 2), (1001, 0)), (6, 0))
        self.assertEqual(to_number(Row(2, add=3), ((0, 0), 5), (2 ** 10 + 1, 0)), (6 + 15, 0))
        self.assertEqual(to_number(Row(10), ((0, 0), 0), (9, 0)), (3, 1))
        self.assertEqual(to_number(Row(2), ((0, 0), 0), (1, 1)), (2, 0))
        self.assertEqual(to_number(Row(10), ((0, 0), 4), (1, 0)), (5, 0))

    def test_far_positions(self):
        row = Row(10)
        self.assertEqual(to_number(row, ((0, 0), -1000), (1, 1000)), (2001, 1000))
        self.assertEqual(to_number(row, ((0, 0), 1000), (1, -1000)), (2001, -1000))
        self.assertEqual(to_number(row, ((1, 1000), 0), (1, -1000)), (3002, -1000))
        self.assertEqual(to_number(row, ((0, 0), 1000), (99, 1000)), (99, 1000))

    def test_long_numbers(self):
        for row in (Row(2), Row(10, move=9), Row(36, add=5), Row(10, last=20)):
            numbers = some_long_numbers(row.base, 42, 6)
            for one, other, position in zip(numbers, numbers[1:], (0, -1000, 20, 5, -7)):
                cost, place = to_number(row, (one, position), other)
                self.assertEqual(distance(row, (one, position), (other, place)), cost)
                for near in range(-1000, 1001, 250):
                    if row.has_place(near):
                        self.assertGreaterEqual(distance(row, (one, position), (other, near)), cost)
                for near in range(place - 3, place + 4):
                    if row.has_place(near):
                        further = distance(row, (one, position), (other, near))
                        self.assertGreater(further, cost - (near >= place))

    def test_negated_numbers(self):
        for start in some_states(Row(10), 43, 10):
            for number in numbers_of(10):
                negated = ((-start[0][0], start[0][1]), start[1])
                self.assertEqual(to_number(Row(10), negated, (-number[0], number[1])),
                                 to_number(Row(10), start, number))

    def test_numbers_of_no_state(self):
        for value in NO_NUMBERS:
            self.check_same_error(InvalidTarget, "value", value, to_number, Row(10), ZERO, value)
        for row, value in ((Row(10, first=0), (5, -1)), (Row(10, first=3), (5, 2)), (Row(10, first=-2), (-5, -3)),
                           (Row(10, first=1000, last=1000), (1, 999))):
            self.check_same_error(InvalidTarget, "value", value, to_number, row, ((0, 0), row.first), value)
        self.assertEqual(to_number(Row(10, first=3), ((0, 0), 3), (5, 3)), (5, 3))
        self.assertEqual(to_number(Row(10, first=3), ((5, 3), 3), (0, 0)), (5, 3))
        self.assertEqual(to_number(Row(10, last=0), ZERO, (5, 1)), (50, 0))
        for value in [ZERO, "5", None, 5, True, object(), [5, 0], ((5, 0), 0)]:
            self.check_same_error(InvalidTarget, "value", value, to_number, Row(10), ZERO, value)

    def test_invalid_states(self):
        for value in NO_STATES:
            for number in ((5, 0), (50, 0), None):
                self.check_same_error(InvalidState, "value", value, to_number, Row(10, first=-3, last=4), value, number)


class IntervalTest(WaysCase):
    def check_interval(self, row, start, low, high):
        """Against each integer that is the number of a state."""
        expected = []
        for integer in range(low, high + 1):
            number = make_number(row.base, integer, 0)
            if is_state(row, (number, start[1])):
                cost, place = to_number(row, start, number)
                expected.append((cost, integer, place))
        if expected:
            found = to_interval(row, start, low, high)
            self.assertEqual(found, min(expected), (row.settings, start, low, high))
            self.assertEqual([type(part) for part in found], [int] * 3)
        else:
            self.check_error(InvalidTarget, "value", (low, high), to_interval, row, start, low, high)

    def test_example(self):
        self.assertEqual(to_interval(Row(10, first=0), ZERO, 95, 98), (5, 98, 2))

    def test_against_each_integer(self):
        for row in SMALL_ROWS + [Row(10, first=1), Row(10, first=2, last=4), Row(2, first=5), Row(36, first=1)]:
            starts = some_states(row, 44, 4) if row.first is None or row.first < 3 else [((0, 0), row.first)]
            for start in starts:
                for low, width in ((0, 0), (95, 0), (-7, 10), (-110, 10), (-50, 100), (95, 100), (-300, 100),
                                   (1000, 0), (-1001, 10), (7, 0), (2 ** 20, 10)):
                    self.check_interval(row, start, low, low + width)

    def test_numbers_that_are_no_integers(self):
        for row in (Row(10), Row(2), Row(10, first=-3)):
            for start in [((5, -1), 0), ((-12345, -3), 2), ((77, -2), -1)]:
                for low, high in ((0, 0), (-100, 0), (12, 22)):
                    self.check_interval(row, start, low, high)

    def test_within_the_interval(self):
        for integer in (-3, 0, 50, 12345):
            start = (make_number(10, integer, 0), 7)
            self.assertEqual(to_interval(Row(10), start, integer - 50, integer + 50), (0, integer, 7))
            self.assertEqual(to_interval(Row(10), start, integer, integer), (0, integer, 7))

    def test_several_integers(self):
        self.assertEqual(to_interval(Row(10), ((5, 0), 0), 6, 6), (1, 6, 0))
        self.assertEqual(to_interval(Row(10, first=0, last=0), ((5, 0), 0), 7, 99), (2, 7, 0))
        self.assertEqual(to_interval(Row(10), ((5, 0), 1), -5, -4), (1, -5, 1))
        # -5 and 15 have the same distance.
        self.assertEqual(to_interval(Row(10, first=0), ((5, 0), 1), 14, 15), (1, 15, 1))
        self.assertEqual(to_interval(Row(10, first=1, last=1), ((0, 0), 1), -10, 10), (0, 0, 1))
        self.assertEqual(to_interval(Row(10, first=1, last=1), ((1, 3), 1), -10, 10), (99, 10, 1))

    def test_no_integer_of_a_state(self):
        row = Row(10, first=1)
        self.check_error(InvalidTarget, "value", (1, 9), to_interval, row, ((0, 0), 1), 1, 9)
        self.check_error(InvalidTarget, "value", (-9, -1), to_interval, row, ((0, 0), 1), -9, -1)
        self.assertEqual(to_interval(row, ((0, 0), 1), 1, 10), (1, 10, 1))
        self.assertEqual(to_interval(row, ((0, 0), 1), 0, 9), (0, 0, 1))
        row = Row(36, first=3)
        self.check_error(InvalidTarget, "value", (1, 101), to_interval, row, ((0, 0), 3), 1, 101)
        self.check_error(InvalidTarget, "value", (10 ** 301 + 1, 10 ** 301 + 9), to_interval, Row(10), ZERO,
                         10 ** 301 + 1, 10 ** 301 + 9)
        self.assertEqual(to_interval(Row(10), ZERO, 10 ** 301, 10 ** 301 + 9), (302, 10 ** 301, 301))
        self.check_error(InvalidTarget, "value", (2 ** 1001, 2 ** 1001), to_interval, Row(2), ZERO, 2 ** 1001,
                         2 ** 1001)
        # Two ones at the place 999 cost as much as a one at the place 1000.
        self.assertEqual(to_interval(Row(2), ZERO, 2 ** 1000, 2 ** 1000), (1001, 2 ** 1000, 999))

    def test_invalid_intervals(self):
        pairs = [(1, 0), (0, 101), (0, -1), (-50, 51), (10 ** 399, 0), (0, 10 ** 399), (5, 4)]
        for value in NO_WHOLES + [None]:
            pairs += [(value, 0), (0, value), (value, value)]
        for low, high in pairs:
            with self.assertRaises(InvalidTarget) as caught:
                to_interval(Row(10), ZERO, low, high)
            self.assertIs(type(caught.exception.value), tuple)
            self.assertEqual(len(caught.exception.value), 2)
            self.assertIs(caught.exception.value[0], low)
            self.assertIs(caught.exception.value[1], high)

    def test_long_integers(self):
        for row in (Row(10), Row(2, move=3), Row(36)):
            for start in [ZERO, ((7, -1000), 1000), ((LONGEST, -900), -1000)]:
                began = time.perf_counter()
                cost, integer, place = to_interval(row, start, 10 ** 299, 10 ** 299 + 100)
                self.assertLess(time.perf_counter() - began, 5)
                number = make_number(row.base, integer, 0)
                self.assertEqual(to_number(row, start, number), (cost, place))
                self.assertTrue(is_number(row.base, number) and 10 ** 299 <= integer <= 10 ** 299 + 100)
                for other in range(10 ** 299, integer, 7):
                    self.assertGreater(to_number(row, start, make_number(row.base, other, 0))[0], cost)

    def test_invalid_states(self):
        for value in NO_STATES:
            for low, high in ((0, 5), (5, 0), (True, None)):
                self.check_same_error(InvalidState, "value", value, to_interval, Row(10, first=-3, last=4), value, low,
                                      high)


def searched_residue(row, start, modulus, residue):
    """The least cost to a residue, by residues and positions."""
    value = worth(row.base, start[0])
    assert value.denominator == 1
    waiting, known = [(0, start[1], int(value) % modulus)], set()
    steps = {place: row.base ** place % modulus for place in places_of(row)}
    while True:
        cost, position, rest = heapq.heappop(waiting)
        if rest == residue:
            return cost
        if (position, rest) not in known:
            known.add((position, rest))
            for place in (position - 1, position + 1):
                if place in steps:
                    heapq.heappush(waiting, (cost + row.move_cost, place, rest))
            for sign in (1, -1):
                after = (rest + sign * steps[position]) % modulus
                heapq.heappush(waiting, (cost + row.add_cost, position, after))


class ResidueTest(WaysCase):
    def check_residue(self, row, start, modulus, residue):
        """The cost by a search, and the sequence."""
        found = to_residue(row, start, modulus, residue)
        self.assertIs(type(found), tuple)
        cost, way = found
        self.assertEqual(cost, searched_residue(row, start, modulus, residue),
                         (row.settings, start, modulus, residue))
        self.assertTrue(is_sequence(way))
        self.assertEqual(cost_of(row, way), cost)
        # The number may be of any size, so that run would refuse it.
        for amount, position in performed(row.base, start, text_of(way)):
            self.assertTrue(row.has_place(position))
        self.assertEqual(amount % modulus, residue)

    def test_example(self):
        self.assertEqual(to_residue(Row(10, first=0), ZERO, 7, 3), (2, [("R", 1), ("A", 1)]))

    def test_every_modulus(self):
        chance = random.Random(45)
        rows = [Row(2, first=0), Row(10, first=0), Row(36, first=0), Row(3, first=0, move=5), Row(10, first=0, add=7),
                Row(2, first=0, last=2), Row(10, first=0, last=0), Row(7, first=0, last=1, add=3),
                Row(6, first=0, move=3, add=2), Row(2, first=0, move=2, add=9), Row(35, first=0, last=9)]
        for modulus in range(1, 41):
            for row in rows:
                for residue in {0, modulus - 1, modulus // 2, chance.randrange(modulus)}:
                    position = chance.randint(0, 12 if row.last is None else row.last)
                    number = make_number(row.base, chance.randint(-10 ** 6, 10 ** 6), chance.randint(0, 3))
                    self.check_residue(row, (number, position), modulus, residue)

    def test_every_residue(self):
        for row in (Row(2, first=0), Row(10, first=0), Row(12, first=0, move=2, add=3, last=4)):
            for modulus in (8, 9, 30, 37):
                for residue in range(modulus):
                    self.check_residue(row, ((5, 0), 3), modulus, residue)

    def test_places_with_a_common_divisor(self):
        # Here a one at a place leads round through some of the residues only.
        self.assertEqual(to_residue(Row(4, move=5, add=3, first=0, last=2), ZERO, 28, 7)[0], 14)
        self.assertEqual(to_residue(Row(5, first=0, last=2), ZERO, 25, 9)[0], 4)
        for row, modulus in ((Row(4, move=5, add=3, first=0, last=2), 28), (Row(4, add=3, first=0, last=2), 36),
                             (Row(5, first=0, last=2), 25), (Row(5, move=5, add=10, first=0), 40),
                             (Row(6, add=3, first=0, last=3), 30), (Row(6, move=3, first=0), 33)):
            for position in (0, 1):
                for residue in range(modulus):
                    self.check_residue(row, ((0, 0), position), modulus, residue)

    def test_far_to_the_right(self):
        # From the places 5, 3 and 2 on, all places are multiples of the modulus.
        for base, modulus in ((2, 32), (10, 8), (36, 36), (10, 40), (6, 24), (2, 40), (10, 37), (30, 36)):
            for position in (7, 60, 300):
                for last in (None, position, 1000):
                    row = Row(base, first=0, last=last)
                    for residue in (1, modulus - 1, modulus // 2):
                        self.check_residue(row, ((1, 7), position), modulus, residue)

    def test_as_far_to_the_right_as_possible(self):
        row = Row(2, first=0)
        self.check_residue(row, ((1, 1000), 1000), 32, 31)
        self.assertEqual(to_residue(row, ((1, 1000), 1000), 32, 31), (1001, [("L", 1000), ("S", 1)]))
        self.assertEqual(to_residue(row, ((1, 1000), 1000), 32, 0), (0, []))
        self.assertEqual(to_residue(Row(10, first=0), ((1, 1000), 1000), 3, 0), (1, [("S", 1)]))
        self.check_residue(Row(10, first=0, move=3), ((-7, 900), 998), 37, 19)
        self.check_residue(Row(3, first=0, move=3, last=999), ((-7, 900), 998), 40, 3)
        self.check_residue(Row(2, first=0, add=1000000), ((7, 0), 500), 37, 19)

    def test_dear_operations(self):
        for row in (Row(2, first=0, move=1000000), Row(2, first=0, add=1000000), Row(10, first=0, move=1000, add=999)):
            for modulus, residue in ((40, 20), (37, 18), (11, 5), (32, 9)):
                for position in (0, 3, 40):
                    self.check_residue(row, ((3, 0), position), modulus, residue)

    def test_residues_that_are_there(self):
        for modulus in range(1, 41):
            number = make_number(10, 10 ** 9 + 7, 0)
            self.assertEqual(to_residue(Row(10, first=0), (number, 5), modulus, (10 ** 9 + 7) % modulus), (0, []))
            self.assertEqual(to_residue(Row(10, first=0), ((-LONGEST, 7), 5), modulus, -LONGEST * 10 ** 7 % modulus),
                             (0, []))

    def test_callers_need_not_wait(self):
        for base in (2, 10, 35):
            for modulus in (40, 37, 32):
                began = time.perf_counter()
                to_residue(Row(base, first=0), ((1, 0), 1000), modulus, modulus - 2)
                self.assertLess(time.perf_counter() - began, 2)

    def test_results_are_new(self):
        for _ in range(3):
            cost, way = to_residue(Row(10, first=0), ZERO, 7, 3)
            self.assertEqual((cost, way), (2, [("R", 1), ("A", 1)]))
            way.clear()

    def test_invalid_targets(self):
        pairs = [(0, 0), (41, 0), (-1, 0), (7, 7), (7, -1), (40, 40), (1, 1), (10 ** 399, 5), (7, 10 ** 399)]
        for value in NO_WHOLES + [None]:
            pairs += [(value, 0), (7, value), (value, value)]
        for row in (Row(10, first=0), Row(10), Row(10, first=-3)):
            for modulus, residue in pairs:
                with self.assertRaises(InvalidTarget) as caught:
                    to_residue(row, ZERO, modulus, residue)
                self.assertIs(type(caught.exception.value), tuple)
                self.assertEqual(len(caught.exception.value), 2)
                self.assertIs(caught.exception.value[0], modulus)
                self.assertIs(caught.exception.value[1], residue)

    def test_rows_that_do_not_begin_at_0(self):
        for row, position in ((Row(10), 0), (Row(10, first=-3), 0), (Row(10, first=1), 1), (Row(10, last=0), 0)):
            self.check_error(InvalidRow, "field", "first", to_residue, row, ((0, 0), position), 7, 3)

    def test_invalid_states(self):
        for row in (Row(10, first=0, last=4), Row(10, first=-3, last=4)):
            for value in NO_STATES:
                for modulus, residue in ((7, 3), (41, 3)):
                    self.check_same_error(InvalidState, "value", value, to_residue, row, value, modulus, residue)


if __name__ == "__main__":
    unittest.main()
