"""Sums: point [4], plus, minus, scaled and floor_at."""

import random
import unittest
from fractions import Fraction
from math import floor

from abacushead.errors import InvalidNumber, LimitExceeded
from abacushead.numbers import floor_at, is_number, make_number, minus, plus, scaled

LONGEST = 10 ** 300 - 1

INVALID = [
    (10, 0), (0, 1), (10 ** 300 + 1, 0), (-(10 ** 300) - 1, 0), (1, 1001), (1, -1001),
    (True, 0), (1, False), (False, 0), [1, 0], (1,), (1, 0, 0), (), "1", None, 1, ((1, 0), 0),
    (1, None), ("1", 0),
]


def worth(base, number):
    return number[0] * Fraction(base) ** number[1]


def some_numbers(base, count):
    """The same numbers in each run: small ones and long ones, near and far apart."""
    chance = random.Random(base)
    numbers = [(0, 0), (1, 0), (-1, 0), (1, 40), (-1, -40), (base - 1, -1), (1 - base, 3)]
    while len(numbers) < count:
        size = chance.choice([1, base, base ** 3, 10 ** 40])
        numbers.append(make_number(base, chance.randint(-size, size), chance.randint(-30, 30)))
    return numbers


class SumsCase(unittest.TestCase):
    def check_number(self, base, result, expected):
        self.assertEqual(result, expected)
        self.assertIs(type(result), tuple)
        self.assertEqual([type(part) for part in result], [int, int])
        self.assertTrue(is_number(base, result))

    def check_limit(self, limit, function, *arguments):
        with self.assertRaises(LimitExceeded) as caught:
            function(*arguments)
        self.assertEqual(caught.exception.limit, limit)

    def check_invalid(self, value, function, *arguments):
        with self.assertRaises(InvalidNumber) as caught:
            function(*arguments)
        self.assertIs(caught.exception.value, value)


class PlusTest(SumsCase):
    def test_examples(self):
        self.check_number(10, plus(10, (5, 0), (5, -1)), (55, -1))
        self.check_number(10, plus(10, (5, 0), (5, 0)), (1, 1))
        self.check_number(10, plus(10, (-5, 0), (7, 2)), (695, 0))
        self.check_number(2, plus(2, (1, 0), (1, 0)), (1, 1))
        self.check_number(36, plus(36, (35, -1), (1, -1)), (1, 0))

    def test_zero(self):
        for number in [(0, 0), (7, 0), (-7, 1000), (7, -1000), (LONGEST, 1000), (-LONGEST, -1000)]:
            self.check_number(10, plus(10, number, (0, 0)), number)
            self.check_number(10, plus(10, (0, 0), number), number)

    def test_sums_that_become_zero(self):
        for number in [(7, 0), (-7, 1000), (7, -1000), (LONGEST, 5), (-LONGEST, -5)]:
            self.check_number(10, plus(10, number, (-number[0], number[1])), (0, 0))

    def test_sums_that_lose_digits(self):
        self.check_number(10, plus(10, (1999, -3), (1, -3)), (2, 0))
        self.check_number(10, plus(10, (12345, -4), (-12344, -4)), (1, -4))
        self.check_number(10, plus(10, (LONGEST, 0), (1, 0)), (1, 300))
        self.check_number(10, plus(10, (-LONGEST, -1000), (-1, -1000)), (-1, -700))
        self.check_number(2, plus(2, (2 ** 900 - 1, -1000), (1, -1000)), (1, -100))

    def test_far_apart(self):
        self.check_number(10, plus(10, (1, 150), (1, -149)), (10 ** 299 + 1, -149))
        self.check_number(10, plus(10, (1, 1000), (-1, 700)), (10 ** 300 - 1, 700))
        self.check_number(2, plus(2, (1, 900), (1, 0)), (2 ** 900 + 1, 0))
        self.check_number(2, plus(2, (1, 0), (-1, -900)), (2 ** 900 - 1, -900))
        self.check_number(36, plus(36, (1, -900), (1, -1000)), (36 ** 100 + 1, -1000))

    def test_random_sums(self):
        for base in (2, 3, 10, 12, 36):
            numbers = some_numbers(base, 40)
            for one in numbers:
                for other in numbers:
                    result = plus(base, one, other)
                    self.assertEqual(worth(base, result), worth(base, one) + worth(base, other))
                    self.assertTrue(is_number(base, result))

    def test_limits(self):
        self.check_limit(300, plus, 10, (1, 300), (1, 0))
        self.check_limit(300, plus, 10, (1, 1000), (1, -1000))
        self.check_limit(300, plus, 36, (-1, 1000), (-1, -1000))
        self.check_limit(300, plus, 10, (LONGEST, 0), (2, 0))
        self.check_limit(300, plus, 10, (-LONGEST, 1000), (-2, 1000))
        self.check_limit(300, plus, 2, (2 ** 996 - 1, 1), (2 ** 996 - 1, 0))
        self.check_limit(1000, plus, 10, (5, 1000), (5, 1000))
        self.check_limit(1000, plus, 2, (-1, 1000), (-1, 1000))
        self.check_limit(1000, plus, 10, (LONGEST, 1000), (1, 1000))

    def test_invalid_numbers(self):
        for value in INVALID:
            with self.subTest(value=value):
                self.check_invalid(value, plus, 10, value, (1, 0))
                self.check_invalid(value, plus, 10, (1, 0), value)
                self.check_invalid(value, plus, 10, value, [1, 1])
                self.check_invalid(value, plus, 10, (1, 1000), value)


class MinusTest(SumsCase):
    def test_examples(self):
        self.check_number(10, minus(10, (5, 0), (5, -1)), (45, -1))
        self.check_number(10, minus(10, (5, -1), (5, 0)), (-45, -1))
        self.check_number(10, minus(10, (1, 1), (1, 0)), (9, 0))
        self.check_number(2, minus(2, (1, 0), (-1, 0)), (1, 1))
        self.check_number(36, minus(36, (1, 0), (1, -1)), (35, -1))

    def test_zero(self):
        for number in [(0, 0), (7, 0), (-7, 1000), (7, -1000), (LONGEST, 1000), (-LONGEST, -1000)]:
            self.check_number(10, minus(10, number, (0, 0)), number)
            self.check_number(10, minus(10, (0, 0), number), (-number[0], number[1]))
            self.check_number(10, minus(10, number, number), (0, 0))

    def test_differences_that_lose_digits(self):
        self.check_number(10, minus(10, (12345, -4), (12344, -4)), (1, -4))
        self.check_number(10, minus(10, (12345, -4), (2345, -4)), (1, 0))
        self.check_number(10, minus(10, (-LONGEST, 0), (1, 0)), (-1, 300))

    def test_far_apart(self):
        self.check_number(10, minus(10, (1, 150), (1, -150)), (10 ** 300 - 1, -150))
        self.check_number(2, minus(2, (1, -900), (1, 0)), (1 - 2 ** 900, -900))

    def test_random_differences(self):
        for base in (2, 3, 10, 12, 36):
            numbers = some_numbers(base, 40)
            for one in numbers:
                for other in numbers:
                    result = minus(base, one, other)
                    self.assertEqual(worth(base, result), worth(base, one) - worth(base, other))
                    self.assertTrue(is_number(base, result))

    def test_limits(self):
        self.check_limit(300, minus, 10, (1, 301), (1, 0))
        self.check_limit(300, minus, 10, (1, -1000), (1, 1000))
        self.check_limit(300, minus, 10, (LONGEST, 1000), (-2, 1000))
        self.check_limit(1000, minus, 10, (5, 1000), (-5, 1000))
        self.check_limit(1000, minus, 10, (-LONGEST, 1000), (1, 1000))

    def test_invalid_numbers(self):
        for value in INVALID:
            with self.subTest(value=value):
                self.check_invalid(value, minus, 10, value, (1, 0))
                self.check_invalid(value, minus, 10, (1, 0), value)
                self.check_invalid(value, minus, 10, value, [1, 1])
                self.check_invalid(value, minus, 10, (1, 1000), value)


class ScaledTest(SumsCase):
    def test_examples(self):
        self.check_number(10, scaled(10, (5, 2), 3), (5, 5))
        self.check_number(10, scaled(10, (5, 2), -3), (5, -1))
        self.check_number(10, scaled(10, (-55, -1), 0), (-55, -1))
        self.check_number(2, scaled(2, (3, -1000), 2000), (3, 1000))
        self.check_number(36, scaled(36, (LONGEST, 1000), -2000), (LONGEST, -1000))

    def test_zero(self):
        for places in (0, 1, -1, 1000, -1000, 5000, 10 ** 399, -(10 ** 399)):
            self.check_number(10, scaled(10, (0, 0), places), (0, 0))

    def test_limits(self):
        self.check_number(10, scaled(10, (7, 0), 1000), (7, 1000))
        self.check_number(10, scaled(10, (7, 0), -1000), (7, -1000))
        self.check_limit(1000, scaled, 10, (7, 0), 1001)
        self.check_limit(1000, scaled, 10, (7, 0), -1001)
        self.check_limit(1000, scaled, 10, (-7, 1000), 1)
        self.check_limit(1000, scaled, 10, (-7, -1000), -1)
        self.check_limit(1000, scaled, 10, (LONGEST, 500), 501)
        self.check_limit(1000, scaled, 10, (7, 0), 10 ** 399)
        self.check_limit(1000, scaled, 10, (7, 0), -(10 ** 399))

    def test_invalid_numbers(self):
        for value in INVALID:
            with self.subTest(value=value):
                self.check_invalid(value, scaled, 10, value, 1)
                self.check_invalid(value, scaled, 10, value, 3000)


class FloorAtTest(SumsCase):
    def check_floor(self, base, number, place, expected):
        with self.subTest(base=base, number=number, place=place):
            result = floor_at(base, number, place)
            self.assertEqual(result, expected)
            self.assertIs(type(result), int)

    def test_examples(self):
        self.check_floor(10, (-55, -1), 0, -6)
        self.check_floor(10, (3, 4), 2, 300)
        self.check_floor(10, (55, -1), 0, 5)
        self.check_floor(10, (12345, 0), 2, 123)
        self.check_floor(10, (12345, 0), -2, 1234500)

    def test_negative_numbers(self):
        self.check_floor(10, (-1, 0), 0, -1)
        self.check_floor(10, (-1, 0), 1, -1)
        self.check_floor(10, (-1, -1000), 0, -1)
        self.check_floor(10, (-1, -1000), 1000, -1)
        self.check_floor(10, (-11, 0), 1, -2)
        self.check_floor(10, (-1, 1), 1, -1)
        self.check_floor(10, (-1, 1), 0, -10)
        self.check_floor(2, (-3, 0), 1, -2)
        self.check_floor(36, (-37, 0), 1, -2)

    def test_zero(self):
        for place in (0, 1, -1, 1000, -1000):
            self.check_floor(10, (0, 0), place, 0)

    def test_last_places(self):
        self.check_floor(10, (7, 1000), 1000, 7)
        self.check_floor(10, (-7, -1000), -1000, -7)
        self.check_floor(10, (7, 999), 1000, 0)
        self.check_floor(10, (-7, 999), 1000, -1)
        self.check_floor(10, (123, 998), 1000, 1)
        self.check_floor(10, (1, -1000), 1000, 0)
        self.check_floor(10, (7, -999), -1000, 70)
        self.check_floor(10, (-7, -999), -1000, -70)

    def test_any_length(self):
        self.check_floor(10, (7, 1000), -1000, 7 * 10 ** 2000)
        self.check_floor(36, (-LONGEST, 1000), -1000, -LONGEST * 36 ** 2000)
        self.check_floor(2, (LONGEST, 1000), 0, LONGEST * 2 ** 1000)

    def test_random_floors(self):
        for base in (2, 3, 10, 12, 36):
            for number in some_numbers(base, 40):
                for place in range(-35, 60, 3):
                    expected = floor(worth(base, number) / Fraction(base) ** place)
                    self.assertEqual(floor_at(base, number, place), expected)

    def test_invalid_numbers(self):
        for value in INVALID:
            with self.subTest(value=value):
                self.check_invalid(value, floor_at, 10, value, 0)
                self.check_invalid(value, floor_at, 10, value, -1000)


if __name__ == "__main__":
    unittest.main()
