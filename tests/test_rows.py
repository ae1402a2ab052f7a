"""Rows: point [5] and the section abacushead/rows.py."""

import unittest

from abacushead.errors import InvalidRow
from abacushead.rows import Row

NO_INTEGERS = [True, False, "", "5", b"5", (), (5,), [], [5], {}, {5: 5}, {5}, object(), int, 2.0]


def properties(row):
    return (row.base, row.move_cost, row.add_cost, row.first, row.last)


class PropertiesTest(unittest.TestCase):
    def check(self, row, *expected):
        self.assertEqual(properties(row), expected)
        self.assertNotIn(bool, [type(value) for value in properties(row)])

    def test_arguments(self):
        self.check(Row(10, move=2, add=3, first=-4, last=5), 10, 2, 3, -4, 5)
        self.check(Row(36, last=7, first=6, add=9, move=8), 36, 8, 9, 6, 7)

    def test_defaults(self):
        self.check(Row(10), 10, 1, 1, None, None)
        self.check(Row(10, move=2), 10, 2, 1, None, None)
        self.check(Row(10, add=3), 10, 1, 3, None, None)
        self.check(Row(10, first=-4), 10, 1, 1, -4, None)
        self.check(Row(10, last=5), 10, 1, 1, None, 5)
        self.check(Row(10, first=None, last=None), 10, 1, 1, None, None)

    def test_first_and_last_valid_values(self):
        for base in range(2, 37):
            self.check(Row(base), base, 1, 1, None, None)
        for cost in (1, 2, 999999, 1000000):
            self.check(Row(10, move=cost), 10, cost, 1, None, None)
            self.check(Row(10, add=cost), 10, 1, cost, None, None)
        for end in (-1000, -999, -1, 0, 1, 999, 1000):
            self.check(Row(10, first=end), 10, 1, 1, end, None)
            self.check(Row(10, last=end), 10, 1, 1, None, end)
            self.check(Row(10, first=end, last=end), 10, 1, 1, end, end)
        self.check(Row(10, first=-1000, last=1000), 10, 1, 1, -1000, 1000)

    def test_class_values(self):
        self.assertEqual((Row.MIN_BASE, Row.MAX_BASE), (2, 36))
        self.assertEqual((Row(10).MIN_BASE, Row(10).MAX_BASE), (2, 36))
        self.assertEqual([type(Row.MIN_BASE), type(Row.MAX_BASE)], [int, int])

    def test_properties_are_not_assigned(self):
        row = Row(10, first=0)
        for name in ("base", "move_cost", "add_cost", "first", "last"):
            with self.subTest(name=name):
                self.assertIsInstance(getattr(Row, name), property)
                with self.assertRaises(AttributeError):
                    setattr(row, name, 5)
        self.check(row, 10, 1, 1, 0, None)


class InvalidArgumentsTest(unittest.TestCase):
    def check(self, field, base, **settings):
        with self.subTest(base=base, **settings):
            with self.assertRaises(InvalidRow) as caught:
                Row(base, **settings)
            self.assertEqual(caught.exception.field, field)

    def test_next_values_beyond(self):
        for base in (1, 0, -1, -2, -10, 37, 38, 10 ** 399):
            self.check("base", base)
        for cost in (0, -1, -5, 1000001, 10 ** 399):
            self.check("move", 10, move=cost)
            self.check("add", 10, add=cost)
        for end in (-1001, 1001, -(10 ** 399), 10 ** 399):
            self.check("first", 10, first=end)
            self.check("last", 10, last=end)

    def test_values_of_other_kinds(self):
        for value in NO_INTEGERS:
            self.check("base", value)
            self.check("move", 10, move=value)
            self.check("add", 10, add=value)
            self.check("first", 10, first=value)
            self.check("last", 10, last=value)

    def test_none_is_valid_for_the_ends_only(self):
        self.check("base", None)
        self.check("move", 10, move=None)
        self.check("add", 10, add=None)

    def test_last_before_first(self):
        self.check("last", 10, first=1, last=0)
        self.check("last", 10, first=0, last=-1)
        self.check("last", 10, first=1000, last=-1000)
        self.check("last", 10, first=-999, last=-1000)

    def test_first_is_named_before_last(self):
        self.check("first", 10, first=1001, last=0)
        self.check("first", 10, first=-1001, last=1001)
        self.check("first", 10, first=True, last=0)
        self.check("last", 10, first=5, last=False)
        self.check("last", 10, first=5, last=1001)

    def test_first_invalid_argument_in_order(self):
        invalid = {"base": 1, "move": 0, "add": True, "first": "0", "last": 1001}
        valid = {"base": 10, "move": 1, "add": 1, "first": 0, "last": 0}
        names = list(invalid)
        for choice in range(1, 32):
            wrong = [name for at, name in enumerate(names) if choice & (1 << at)]
            settings = {name: (invalid if name in wrong else valid)[name] for name in names}
            self.check(wrong[0], settings.pop("base"), **settings)

    def test_order_does_not_follow_the_call(self):
        self.check("move", 10, last=-2000, first=2000, add=0, move=0)
        self.check("add", 10, last=0, first=1, add=0)
        self.check("move", 10, first=1, last=0, move=0)
        self.check("base", 37, first=1, last=0)

    def test_argument_is_not_changed(self):
        value = [5]
        self.check("base", value)
        self.assertEqual(value, [5])


class EqualityTest(unittest.TestCase):
    def test_equal_rows(self):
        self.assertTrue(Row(10) == Row(10))
        self.assertFalse(Row(10) != Row(10))
        self.assertTrue(Row(10) == Row(10, move=1, add=1, first=None, last=None))
        one = Row(3, move=2, add=4, first=-1, last=1)
        other = Row(3, last=1, first=-1, add=4, move=2)
        self.assertTrue(one == other)
        self.assertFalse(one != other)
        self.assertTrue(one == one)

    def test_each_property_counts(self):
        settings = {"base": 5, "move": 2, "add": 3, "first": -4, "last": 4}
        for name, other in [("base", 6), ("move", 3), ("add", 2), ("first", -5), ("last", 5),
                            ("first", None), ("last", None)]:
            with self.subTest(name=name, other=other):
                one, another = Row(**settings), Row(**{**settings, name: other})
                self.assertFalse(one == another)
                self.assertFalse(another == one)
                self.assertTrue(one != another)

    def test_exchanged_properties(self):
        self.assertFalse(Row(10, move=2, add=3) == Row(10, move=3, add=2))
        self.assertFalse(Row(10, first=0) == Row(10, last=0))

    def test_values_of_other_kinds(self):
        row = Row(10)
        for value in [None, 10, True, "", "Row(10)", (10, 1, 1, None, None), [10, 1, 1, None, None],
                      {}, {"base": 10}, Row, object(), InvalidRow("base")]:
            with self.subTest(value=value):
                self.assertIs(row == value, False)
                self.assertIs(value == row, False)
                self.assertIs(row != value, True)


class HasPlaceTest(unittest.TestCase):
    def check(self, row, expected, *values):
        for value in values:
            with self.subTest(row=properties(row), value=value):
                self.assertIs(row.has_place(value), expected)

    def test_two_ends(self):
        row = Row(10, first=-3, last=4)
        self.check(row, True, -3, -2, 0, 3, 4)
        self.check(row, False, -4, 5, -1000, 1000, -1001, 1001, 10 ** 399)

    def test_single_place(self):
        for place in (-1000, -1, 0, 1, 1000):
            row = Row(10, first=place, last=place)
            self.check(row, True, place)
            self.check(row, False, place - 1, place + 1)

    def test_first_only(self):
        row = Row(10, first=0)
        self.check(row, True, 0, 1, 999, 1000)
        self.check(row, False, -1, -1000, -1001, 1001, 1002)

    def test_last_only(self):
        row = Row(10, last=0)
        self.check(row, True, 0, -1, -999, -1000)
        self.check(row, False, 1, 1000, 1001, -1001, -1002)

    def test_no_ends(self):
        row = Row(10)
        self.check(row, True, -1000, -999, -1, 0, 1, 999, 1000)
        self.check(row, False, -1001, 1001, -(10 ** 399), 10 ** 399)

    def test_extreme_ends(self):
        row = Row(10, first=-1000, last=1000)
        self.check(row, True, -1000, 0, 1000)
        self.check(row, False, -1001, 1001)

    def test_values_of_other_kinds(self):
        for row in (Row(10), Row(10, first=0), Row(10, last=5), Row(10, first=-5, last=5)):
            self.check(row, False, None, *NO_INTEGERS)

    def test_value_is_not_changed(self):
        value = [1, [2]]
        Row(10).has_place(value)
        self.assertEqual(value, [1, [2]])


if __name__ == "__main__":
    unittest.main()
