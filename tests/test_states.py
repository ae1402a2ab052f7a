"""States: point [5] and the section abacushead/states.py."""

import unittest

from abacushead.errors import InvalidState, LimitExceeded
from abacushead.numbers import make_number
from abacushead.rows import Row
from abacushead.states import is_state, make_state
from samples import LONGEST, NO_NUMBERS, NO_PLACES, OTHER_KINDS

ROWS = [Row(10), Row(10, first=-3), Row(10, last=4), Row(10, first=-3, last=4), Row(2, first=0, last=0)]


class IsStateTest(unittest.TestCase):
    def check(self, expected, row, *values):
        for value in values:
            with self.subTest(settings=row.settings, value=value):
                self.assertIs(is_state(row, value), expected)

    def test_states(self):
        self.check(True, Row(10), ((0, 0), 0), ((9, 0), 0), ((-55, -1), 7), ((5, 2), -7), ((101, -30), 30))
        self.check(True, Row(2), ((1, 0), 0), ((-7, -3), 2))
        self.check(True, Row(36), ((35, 0), 0), ((18, -1), 1), ((-37, 4), -1))

    def test_exponents_beside_the_first_place(self):
        for first in (-1000, -5, 0, 3, 999):
            row = Row(10, first=first)
            self.check(True, row, ((7, first), first), ((7, first + 1), first), ((-7, first), 1000))
            self.check(True, row, ((7, 1000), first), ((LONGEST, first), first))
            self.check(False, row, ((7, first - 1), first), ((-7, first - 1), 1000), ((77, -1001), first))
        self.check(False, Row(10, first=0), ((55, -1), 0), ((7, -1000), 0))
        self.check(False, Row(10, first=1000), ((7, 999), 1000), ((7, 0), 1000))

    def test_exponents_behind_the_last_place(self):
        for last in (-1000, -5, 0, 3, 1000):
            self.check(True, Row(10, last=last), ((7, 1000), last), ((7, last), last), ((7, -1000), last))
        self.check(True, Row(10, first=2, last=3), ((7, 4), 3), ((7, 1000), 2))
        self.check(False, Row(10, first=2, last=3), ((7, 1), 3))

    def test_exponents_without_a_first_place(self):
        for row in (Row(10), Row(10, last=5)):
            self.check(True, row, ((7, -1000), 0), ((7, 1000), 0), ((-LONGEST, -1000), 5))
            self.check(False, row, ((7, -1001), 0), ((7, 1001), 0))

    def test_zero(self):
        for first in (-1000, -1, 0, 1, 7, 1000):
            self.check(True, Row(10, first=first), ((0, 0), first), ((0, 0), 1000))
            self.check(False, Row(10, first=first), ((0, first or 1), 1000))
        self.check(True, Row(10, first=5, last=5), ((0, 0), 5))

    def test_positions_at_the_ends(self):
        row = Row(10, first=-3, last=4)
        for number in [(0, 0), (7, 0), (-7, -3), (7, 1000)]:
            self.check(True, row, (number, -3), (number, -2), (number, 0), (number, 3), (number, 4))
            self.check(False, row, (number, -4), (number, 5), (number, -1000), (number, 1000))
            self.check(False, row, (number, -1001), (number, 1001), (number, 10 ** 399))

    def test_positions_with_one_end(self):
        for number in [(0, 0), (7, 2)]:
            self.check(True, Row(10, first=-3), (number, -3), (number, 1000))
            self.check(False, Row(10, first=-3), (number, -4), (number, -1000), (number, 1001))
            self.check(True, Row(10, last=4), (number, 4), (number, -1000))
            self.check(False, Row(10, last=4), (number, 5), (number, 1000), (number, -1001))

    def test_positions_without_ends(self):
        for number in [(0, 0), (7, 2), (-7, -1000), (7, 1000)]:
            self.check(True, Row(10), (number, -1000), (number, -999), (number, 999), (number, 1000))
            self.check(False, Row(10), (number, -1001), (number, 1001), (number, -(10 ** 399)))

    def test_wrong_numbers(self):
        for row in ROWS:
            self.check(False, row, *[(value, 0) for value in NO_NUMBERS])
        self.check(False, Row(10), ((10, 0), 0), ((-70, -2), 0))
        self.check(True, Row(3), ((10, 0), 0))
        self.check(False, Row(5), ((10, 0), 0))

    def test_wrong_positions(self):
        for row in ROWS:
            self.check(False, row, *[((0, 0), value) for value in NO_PLACES])
            self.check(False, row, *[((1, 0), value) for value in NO_PLACES])

    def test_bools_in_place_of_integers(self):
        self.check(False, Row(10), ((True, 0), 0), ((1, False), 0), ((1, 0), False), ((1, 0), True))
        self.check(False, Row(10), ((False, 0), 0), ((0, False), 0), ((0, 0), False), (True, False))
        self.check(False, Row(10), ((1, True), 1), ((False, False), False))

    def test_lists_in_place_of_tuples(self):
        self.check(False, Row(10), [(0, 0), 0], ([0, 0], 0), [[0, 0], 0], [(9, 0), 3], ([9, 0], 3), [], [[]])

    def test_tuples_of_other_lengths(self):
        self.check(False, Row(10), (), ((0, 0),), ((0, 0), 0, 0), (0, 0), (0, 0, 0), ((0,), 0), ((0, 0, 0), 0))
        self.check(False, Row(10), ((), 0), ((0, 0), ()), ((), ()), (0, (0, 0)))

    def test_nested_values(self):
        self.check(False, Row(10), (((0, 0), 0), 0), ((0, 0), (0, 0)), (((0, 0), 0),), (((0, 0),), 0))
        self.check(False, Row(10), ((0, 0), (0,)), (((1,), 0), 0), ((1, (0,)), 0), ((0, 0), [0]))

    def test_texts(self):
        self.check(False, Row(10), "", "9@0", "00", ("0", 0), ("00", 0), ((0, 0), "0"), (("0", "0"), "0"))
        self.check(False, Row(10), (b"00", 0), ((0, 0), b"0"))

    def test_other_values(self):
        for row in ROWS:
            self.check(False, row, *OTHER_KINDS)
            self.check(False, row, *[(value, 0) for value in OTHER_KINDS])
            self.check(False, row, (None, None), ((None, None), None), ((0, 0), None))

    def test_value_is_not_changed(self):
        value = [[9, 0], [0]]
        is_state(Row(10), value)
        self.assertEqual(value, [[9, 0], [0]])


class MakeStateTest(unittest.TestCase):
    def check(self, row, numerator, position, expected):
        with self.subTest(settings=row.settings, numerator=numerator, position=position):
            state = make_state(row, numerator, position)
            self.assertEqual(state, expected)
            self.assertTrue(is_state(row, state))

    def check_limit(self, row, numerator, position, limit):
        with self.subTest(settings=row.settings, position=position):
            with self.assertRaises(LimitExceeded) as caught:
                make_state(row, numerator, position)
            self.assertEqual(caught.exception.limit, limit)

    def check_invalid(self, row, numerator, position, value):
        with self.subTest(settings=row.settings, numerator=numerator, position=position):
            with self.assertRaises(InvalidState) as caught:
                make_state(row, numerator, position)
            self.assertEqual(caught.exception.value, value)
            self.assertIs(type(caught.exception.value), tuple)

    def test_integers(self):
        self.check(Row(10), 9, 0, ((9, 0), 0))
        self.check(Row(10), -500, 3, ((-5, 2), 3))
        self.check(Row(10), 0, -7, ((0, 0), -7))
        self.check(Row(2), 12, 1000, ((3, 2), 1000))
        self.check(Row(36), 36 ** 3 * 5, -1000, ((5, 3), -1000))
        self.check(Row(10), LONGEST, 0, ((LONGEST, 0), 0))
        self.check(Row(10), -LONGEST * 10 ** 90, 0, ((-LONGEST, 90), 0))
        self.check(Row(2), 2 ** 1000, 0, ((1, 1000), 0))

    def test_rows_with_ends(self):
        self.check(Row(10, first=2), 500, 2, ((5, 2), 2))
        self.check(Row(10, first=2), 0, 5, ((0, 0), 5))
        self.check(Row(10, first=-3, last=4), 7, -3, ((7, 0), -3))
        self.check(Row(10, first=-3, last=4), 7 * 10 ** 20, 4, ((7, 20), 4))

    def test_states_of_other_rows(self):
        self.check_invalid(Row(10, first=2), 50, 2, ((5, 1), 2))
        self.check_invalid(Row(10, first=1), 7, 1, ((7, 0), 1))
        self.check_invalid(Row(10, first=1), 70, 0, ((7, 1), 0))
        self.check_invalid(Row(10, last=4), 70, 5, ((7, 1), 5))
        self.check_invalid(Row(10, first=0), 0, -1, ((0, 0), -1))
        self.check_invalid(Row(10), 500, 1001, ((5, 2), 1001))
        self.check_invalid(Row(10), 500, -1001, ((5, 2), -1001))
        self.check_invalid(Row(2, first=5), 16, 0, ((1, 4), 0))

    def test_too_many_digits(self):
        for base in (2, 10, 36):
            self.check_limit(Row(base), 10 ** 300 + 1 if base == 10 else 10 ** 399 + 1, 0, 300)
        self.check_limit(Row(10), 10 ** 300 + 1, 0, 300)
        self.check_limit(Row(10), -(10 ** 300) - 1, 0, 300)

    def test_limits_come_before_the_state(self):
        for numerator in (10 ** 300 + 1, -(10 ** 399) - 1):
            for position in (0, 2, 1001, -(10 ** 399)):
                self.check_limit(Row(10, first=2, last=2), numerator, position, 300)
        for position in (0, 2, 1001, -(10 ** 399)):
            self.check_limit(Row(2), 2 ** 1001, position, 1000)
            self.check_limit(Row(2, first=2, last=2), -(2 ** 1001) * 3, position, 1000)
            self.check_limit(Row(2, last=-5), 2 ** 1300, position, 1000)

    def test_as_make_number(self):
        for numerator in list(range(-130, 131)) + [7 ** 40, 6 ** 77]:
            for base in (2, 6, 10):
                self.check(Row(base), numerator, 1, (make_number(base, numerator, 0), 1))


if __name__ == "__main__":
    unittest.main()
