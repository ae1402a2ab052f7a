"""Numbers: point [4], is_number and make_number."""

import unittest
from fractions import Fraction

from abacushead.errors import LimitExceeded
from abacushead.numbers import is_number, make_number

BASES = range(2, 37)
LONGEST = 10 ** 300 - 1
TOO_LONG = 10 ** 300 + 1


class IsNumberTest(unittest.TestCase):
    def check(self, expected, base, *values):
        for value in values:
            with self.subTest(base=base, value=value):
                self.assertIs(is_number(base, value), expected)

    def test_numbers(self):
        self.check(True, 10, (5, 2), (-5, 2), (1, 0), (-1, 0), (12, -3), (101, 7), (-99, -99))
        self.check(True, 2, (1, 0), (3, -1), (-7, 5))
        self.check(True, 36, (1, 0), (35, -1), (-37, 5), (18, 0), (6, 0))

    def test_multiples_of_the_base(self):
        for base in BASES:
            for factor in (1, -1, 2, -3, base, base ** 9, base + 1):
                self.check(False, base, (factor * base, 0), (factor * base, -4))
            self.check(True, base, (base - 1, 0), (1 - base, 0), (base + 1, 0), (-base - 1, 0))
        self.check(False, 36, (36, 0), (-72, 1))
        self.check(True, 36, (12, 0), (18, 0), (-54, 1))
        self.check(True, 12, (8, 0), (16, 0), (-18, 0))

    def test_zero(self):
        for base in BASES:
            self.check(True, base, (0, 0))
            self.check(False, base, (0, 1), (0, -1), (0, 1000), (0, -1000), (0, 10 ** 399))

    def test_numerators_of_three_hundred_digits(self):
        for base in (2, 3, 10, 36):
            longest = LONGEST if LONGEST % base else LONGEST - 1
            self.assertEqual(len(str(longest)), 300)
            self.check(True, base, (longest, 0), (-longest, 0), (longest, 1000), (-longest, -1000))

    def test_shortest_and_longest_numerators(self):
        for base in BASES:
            longest = LONGEST if LONGEST % base else LONGEST - 1
            too_long = next(n for n in (10 ** 300, TOO_LONG) if n % base)
            self.check(True, base, (longest, 3), (-longest, 3))
            self.check(False, base, (too_long, 3), (-too_long, 3))

    def test_numerators_of_more_digits(self):
        for base in (2, 10, 36):
            self.check(False, base, (TOO_LONG, 0), (-TOO_LONG, 0))
            self.check(False, base, (10 ** 399 + 1, 0), (-(10 ** 399) - 1, 0))
        self.check(False, 7, (10 ** 300, 0), (-(10 ** 300), 0))

    def test_exponents(self):
        self.check(True, 10, (7, 1000), (7, -1000), (7, 999), (7, -999), (-7, 1000), (-7, -1000))
        self.check(False, 10, (7, 1001), (7, -1001), (7, 10 ** 399), (7, -(10 ** 399)))
        self.check(True, 2, (1, 1000), (1, -1000))
        self.check(False, 2, (1, 1001), (1, -1001))

    def test_bools_in_place_of_integers(self):
        self.check(False, 10, (True, 0), (1, False), (False, 0), (0, False), (False, False))
        self.check(False, 10, (True, True), (1, True), (-1, True))

    def test_lists_in_place_of_tuples(self):
        self.check(False, 10, [5, 2], [0, 0], [], [(5, 2)])

    def test_tuples_of_other_lengths(self):
        self.check(False, 10, (), (5,), (0,), (5, 2, 0), (0, 0, 0), (5, 2, 1, 1))

    def test_other_values(self):
        self.check(False, 10, None, 5, 0, True, "", "5e2", "52", b"52", {}, {5: 2}, {5, 2})
        self.check(False, 10, object(), tuple, len, range(2), frozenset((5, 2)), 0.5)

    def test_nested_values(self):
        self.check(False, 10, ((5, 2), 0), (5, (2,)), ((5, 2),), ([5], 2), (5, [2]), ((5,), (2,)))
        self.check(False, 10, ("5", 2), (5, "2"), (None, 0), (5, None), (b"5", 2), ("", ""))

    def test_value_is_not_changed(self):
        value = [5, [2]]
        is_number(10, value)
        self.assertEqual(value, [5, [2]])


class MakeNumberTest(unittest.TestCase):
    def check(self, base, numerator, exponent, expected):
        with self.subTest(base=base, numerator=numerator, exponent=exponent):
            result = make_number(base, numerator, exponent)
            self.assertEqual(result, expected)
            self.assertIs(type(result), tuple)
            self.assertEqual([type(part) for part in result], [int, int])

    def check_limit(self, base, numerator, exponent, limit):
        with self.subTest(base=base, numerator=numerator, exponent=exponent):
            with self.assertRaises(LimitExceeded) as caught:
                make_number(base, numerator, exponent)
            self.assertEqual(caught.exception.limit, limit)

    def test_examples_of_the_document(self):
        self.check(10, 500, 0, (5, 2))
        self.check(10, 0, 7, (0, 0))
        self.check(2, 12, -3, (3, -1))

    def test_zero(self):
        for base in BASES:
            for exponent in (0, 1, -1, 1000, -1000, 1001, -1001, 10 ** 399, -(10 ** 399)):
                self.check(base, 0, exponent, (0, 0))

    def test_form_is_kept(self):
        for base in BASES:
            for numerator in (1, -1, base - 1, 1 - base, base + 1, base * base - 1):
                self.check(base, numerator, -5, (numerator, -5))

    def test_factors_of_the_base(self):
        for base in BASES:
            for count in range(20):
                for kept in (1, -1, base + 1, -base - 1, base - 1):
                    self.check(base, kept * base ** count, 4, (kept, 4 + count))

    def test_many_factors(self):
        for base in BASES:
            for count in (31, 32, 33, 63, 64, 65, 100, 127, 128, 255):
                self.check(base, base ** count, -70, (1, count - 70))
                self.check(base, -(base + 1) * base ** count, -70, (-base - 1, count - 70))
        self.check(2, 2 ** 1300, -1300, (1, 0))
        self.check(2, -3 * 2 ** 2000, -1000, (-3, 1000))

    def test_composite_bases(self):
        self.check(12, 8, 0, (8, 0))
        self.check(12, 16, 0, (16, 0))
        self.check(12, 72, 0, (6, 1))
        self.check(12, 1152, 0, (8, 2))
        self.check(36, 6 ** 5, 0, (6, 2))
        self.check(36, -(6 ** 5), -2, (-6, 0))
        self.check(36, 2 ** 9 * 3 ** 4, 1, (32, 3))
        self.check(6, 2 ** 7 * 3 ** 5, 0, (4, 5))
        self.check(4, 8, 0, (2, 1))
        self.check(4, -32, 0, (-2, 2))

    def test_small_numerators(self):
        for base in (2, 6, 10, 36):
            for numerator in range(-300, 301):
                result = make_number(base, numerator, -3)
                self.assertTrue(is_number(base, result))
                self.assertEqual(Fraction(base) ** result[1] * result[0], Fraction(base) ** -3 * numerator)

    def test_digits_are_counted_in_the_form(self):
        self.check(10, LONGEST, 0, (LONGEST, 0))
        self.check(10, -LONGEST, 0, (-LONGEST, 0))
        self.check(10, 10 ** 300, 0, (1, 300))
        self.check(10, LONGEST * 10, 0, (LONGEST, 1))
        self.check(10, -LONGEST * 10 ** 50, 0, (-LONGEST, 50))
        self.check(2, LONGEST * 2 ** 300, -300, (LONGEST, 0))
        self.check(36, LONGEST * 36 ** 60, -60, (LONGEST, 0))
        self.check(36, -LONGEST * 36, 0, (-LONGEST, 1))

    def test_too_many_digits(self):
        for base in (2, 10, 36):
            self.check_limit(base, TOO_LONG, 0, 300)
            self.check_limit(base, -TOO_LONG, 0, 300)
            self.check_limit(base, TOO_LONG * base, 0, 300)
            self.check_limit(base, -TOO_LONG * base ** 40, -40, 300)
        self.check_limit(7, 10 ** 300, 0, 300)
        self.check_limit(7, -(10 ** 300), 0, 300)

    def test_last_exponents(self):
        for base in (2, 10, 36):
            self.check(base, 1, 1000, (1, 1000))
            self.check(base, -1, -1000, (-1, -1000))
            self.check(base, base, 999, (1, 1000))
            self.check(base, base, -1001, (1, -1000))
            self.check(base, -(base ** 5), -1005, (-1, -1000))
            self.check(base, base ** 200, -1150, (1, -950))

    def test_exponents_out_of_range(self):
        for base in (2, 10, 36):
            self.check_limit(base, 1, 1001, 1000)
            self.check_limit(base, -1, -1001, 1000)
            self.check_limit(base, base, 1000, 1000)
            self.check_limit(base, -base, -1002, 1000)
            self.check_limit(base, base ** 200, -1201, 1000)
            self.check_limit(base, base ** 200, 801, 1000)
            self.check_limit(base, 1, 10 ** 399, 1000)
            self.check_limit(base, 1, -(10 ** 399), 1000)

    def test_first_of_both_limits(self):
        for base in (2, 10, 36):
            for exponent in (1001, -1001, 10 ** 399, -(10 ** 399)):
                self.check_limit(base, TOO_LONG, exponent, 300)
                self.check_limit(base, -TOO_LONG, exponent, 300)
            self.check_limit(base, TOO_LONG * base, 1000, 300)


if __name__ == "__main__":
    unittest.main()
