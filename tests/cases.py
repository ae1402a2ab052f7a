"""Checks that several tests use."""

import unittest

from abacushead.running import cost_of, run, visited
from abacushead.sequences import is_sequence

# Values that are no limits, whatever else a limit is.
NO_WHOLES = [True, False, "1", "", 0.5, 1.0, (1,), [1], {}, {1: 1}, b"1", object(), int]


class ErrorsCase(unittest.TestCase):
    def check_error(self, error, attribute, expected, function, *arguments, **named):
        """The call raises this very error, with this value as its attribute."""
        with self.assertRaises(error) as caught:
            function(*arguments, **named)
        self.assertIs(type(caught.exception), error)
        found = getattr(caught.exception, attribute)
        self.assertIs(type(found), type(expected))
        self.assertEqual(found, expected)

    def check_same_error(self, error, attribute, value, function, *arguments, **named):
        """The call raises this very error, with the value itself as its attribute."""
        with self.assertRaises(error) as caught:
            function(*arguments, **named)
        self.assertIs(type(caught.exception), error)
        self.assertIs(getattr(caught.exception, attribute), value)


class WaysCase(ErrorsCase):
    def check_way(self, row, start, goal, way, cost):
        """A sequence leads from start to goal within the row at this cost."""
        self.assertTrue(is_sequence(way))
        self.assertEqual(run(row, start, way), goal)
        self.assertEqual(cost_of(row, way), cost)
        self.assertIs(type(cost), int)

    def additions_of(self, way):
        return sum(count for operation, count in way if operation in "AS")

    def places_of(self, start, way):
        low, high = visited(start, way)
        return high - low + 1
