"""Conventions: point [2] and the opening paragraphs of the interface."""

import inspect
import unittest

from abacushead import numbers, rows
from abacushead.errors import InvalidNumber, InvalidRow
from abacushead.numbers import floor_at, is_number, make_number, minus, plus, scaled
from abacushead.rows import Row

PARAMETERS = {
    is_number: ["base", "value"],
    make_number: ["base", "numerator", "exponent"],
    plus: ["base", "one", "other"],
    minus: ["base", "one", "other"],
    scaled: ["base", "number", "places"],
    floor_at: ["base", "number", "place"],
}


class ParametersTest(unittest.TestCase):
    def test_names(self):
        for function, names in PARAMETERS.items():
            with self.subTest(function=function.__name__):
                parameters = inspect.signature(function).parameters.values()
                self.assertEqual([parameter.name for parameter in parameters], names)
                for parameter in parameters:
                    self.assertEqual(parameter.kind, parameter.POSITIONAL_OR_KEYWORD)
                    self.assertIs(parameter.default, parameter.empty)

    def test_calls_by_name(self):
        self.assertIs(is_number(base=10, value=(5, 2)), True)
        self.assertIs(is_number(value=(10, 2), base=10), False)
        self.assertEqual(make_number(exponent=1, numerator=500, base=10), (5, 3))
        self.assertEqual(plus(other=(5, -1), base=10, one=(5, 0)), (55, -1))
        self.assertEqual(minus(other=(5, -1), base=10, one=(5, 0)), (45, -1))
        self.assertEqual(scaled(places=-1, number=(5, 0), base=10), (5, -1))
        self.assertEqual(floor_at(place=2, base=10, number=(3, 4)), 300)
        self.assertIs(Row(base=10).has_place(value=3), True)

    def test_calls_by_position_and_name(self):
        self.assertIs(is_number(10, value=(5, 2)), True)
        self.assertEqual(make_number(10, 500, exponent=1), (5, 3))
        self.assertEqual(plus(10, (5, 0), other=(5, -1)), (55, -1))
        self.assertEqual(minus(10, one=(5, 0), other=(5, -1)), (45, -1))
        self.assertEqual(scaled(10, (5, 0), places=-1), (5, -1))
        self.assertEqual(floor_at(10, number=(3, 4), place=2), 300)

    def test_errors_in_calls_by_name(self):
        with self.assertRaises(InvalidNumber) as caught:
            plus(other=(20, 0), one=(10, 0), base=10)
        self.assertEqual(caught.exception.value, (10, 0))
        with self.assertRaises(InvalidRow) as caught:
            Row(last=1001, base=1)
        self.assertEqual(caught.exception.field, "base")

    def test_keyword_only_parameters(self):
        self.assertRaises(TypeError, Row, 10, 1)
        self.assertRaises(TypeError, Row, 10, 1, 1)
        self.assertRaises(TypeError, Row, 10, 1, 1, 0, 5)
        self.assertRaises(TypeError, Row, 10, 1, add=1)

    def test_base_has_no_default(self):
        self.assertRaises(TypeError, Row)
        self.assertRaises(TypeError, Row, move=1, add=1, first=0, last=5)

    def test_parameters_with_a_default_are_left_out(self):
        row = Row(base=7, last=3)
        self.assertEqual((row.base, row.move_cost, row.add_cost, row.first, row.last), (7, 1, 1, None, 3))


class InterfaceTest(unittest.TestCase):
    def test_functions_are_defined_where_they_are_listed(self):
        for function in PARAMETERS:
            with self.subTest(function=function.__name__):
                self.assertTrue(inspect.isfunction(function))
                self.assertEqual(function.__module__, numbers.__name__)

    def test_row_is_defined_where_it_is_listed(self):
        self.assertEqual(Row.__module__, rows.__name__)
        for name in ("__init__", "__eq__", "has_place", "base", "move_cost", "add_cost", "first", "last",
                     "MIN_BASE", "MAX_BASE"):
            with self.subTest(name=name):
                self.assertIn(name, vars(Row))


class RepeatedCallsTest(unittest.TestCase):
    def test_equal_calls_return_equal_results(self):
        number = (123, -2)
        for _ in range(3):
            self.assertEqual(make_number(10, 1230, -3), number)
            self.assertEqual(plus(10, number, number), (246, -2))
            self.assertEqual(minus(10, number, (23, -2)), (1, 0))
            self.assertEqual(scaled(10, number, 4), (123, 2))
            self.assertEqual(floor_at(10, number, 0), 1)
            self.assertRaises(InvalidNumber, plus, 10, number, (10, 0))
        self.assertEqual(number, (123, -2))

    def test_errors_leave_other_rows_alone(self):
        row = Row(10, first=0, last=5)
        self.assertRaises(InvalidRow, Row, 10, first=3, last=2)
        self.assertEqual((row.first, row.last), (0, 5))
        self.assertEqual(Row(10).first, None)


if __name__ == "__main__":
    unittest.main()
