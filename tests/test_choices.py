"""First operations: point [3] (c) and the section abacushead/choices.py."""

import unittest

from abacushead.choices import first_operations, slacks
from abacushead.errors import InvalidState
from abacushead.rows import Row
from abacushead.running import run
from abacushead.shortest import distance
from samples import LONGEST, NO_STATES, SMALL_ROWS, cost_of_text, some_long_numbers, some_pairs

ZERO = ((0, 0), 0)
NINE = ((9, 0), 0)


class ChoicesCase(unittest.TestCase):
    def check(self, expected, row, start, goal):
        """The slacks in their order, and the first operations that follow from them."""
        found = slacks(row, start, goal)
        self.assertIs(type(found), dict)
        self.assertEqual(list(found.items()), list(expected.items()))
        self.assertEqual([type(slack) for slack in found.values()], [int] * len(found))
        text = "".join(letter for letter in expected if expected[letter] == 0)
        self.assertEqual(first_operations(row, start, goal), text)

    def plain(self, row, start, goal):
        """The slacks by the states after each operation, where all of them are states."""
        letters = [letter for letter in "RLAS" if row.has_place(start[1] + {"R": 1, "L": -1}.get(letter, 0))]
        least = distance(row, start, goal)
        return {letter: cost_of_text(row, letter) + distance(row, run(row, start, [(letter, 1)]), goal) - least
                for letter in letters}

    def follow(self, row, start, goal):
        """Following the first operations leads to the goal at the distance."""
        state, spent = start, 0
        while first_operations(row, state, goal):
            letter = first_operations(row, state, goal)[spent % len(first_operations(row, state, goal))]
            spent += cost_of_text(row, letter)
            state = run(row, state, [(letter, 1)])
            self.assertLessEqual(spent, distance(row, start, goal))
        self.assertEqual((state, spent), (goal, distance(row, start, goal)))


class SlacksTest(ChoicesCase):
    def test_example(self):
        self.check({"R": 0, "L": 2, "A": 2, "S": 0}, Row(10), ZERO, NINE)

    def test_against_distances(self):
        for row in SMALL_ROWS:
            for start, goal in some_pairs(row, 1, 25):
                self.check(self.plain(row, start, goal), row, start, goal)
                self.check(self.plain(row, start, start), row, start, start)

    def test_ends(self):
        self.check({"R": 2, "A": 2, "S": 2}, Row(10, first=0), ZERO, ZERO)
        self.check({"L": 2, "A": 2, "S": 2}, Row(10, last=0), ZERO, ZERO)
        self.check({"A": 0, "S": 2}, Row(10, first=0, last=0), ZERO, NINE)
        self.check({"A": 14, "S": 14}, Row(10, first=5, last=5, add=7), ((0, 0), 5), ((0, 0), 5))
        self.check({"L": 2, "A": 2, "S": 2}, Row(10), ((5, 0), 1000), ((5, 0), 1000))
        self.check({"R": 2, "A": 2, "S": 2}, Row(10), ((5, 0), -1000), ((5, 0), -1000))
        self.check({"R": 0, "A": 2, "S": 2}, Row(10), ((0, 0), -1000), ((0, 0), 1000))

    def test_signs(self):
        for row in (Row(10), Row(2, move=3), Row(7, add=4, first=-3, last=3)):
            for start, goal in some_pairs(row, 2, 15):
                found = slacks(row, start, goal)
                self.assertTrue(all(slack >= 0 for slack in found.values()))
                self.assertEqual(first_operations(row, start, goal) == "", start == goal)

    def test_moves_alone(self):
        self.check({"R": 0, "L": 4, "A": 2, "S": 2}, Row(10, move=2), ((7, -3), -5), ((7, -3), 9))
        self.check({"R": 4, "L": 0, "A": 2, "S": 2}, Row(10, move=2), ((7, -3), 9), ((7, -3), -5))

    def test_numbers_of_more_than_three_hundred_digits(self):
        row = Row(10)
        start, goal = ((LONGEST - 1, 0), 1), ((LONGEST - 1, 0), 2)
        self.check({"R": 0, "L": 2, "A": 2, "S": 2}, row, start, goal)
        start = ((LONGEST, 300), 0)
        self.check({"R": 2, "L": 2, "A": 2, "S": 2}, row, start, start)
        start = ((1, 1000), -1000)
        self.check({"R": 2, "A": 2, "S": 2}, row, start, start)
        start = ((-1, -1000), 1000)
        self.check({"L": 2, "A": 2, "S": 2}, row, start, start)
        self.check({"A": 0, "S": 2}, Row(10, first=0, last=0), ((1, 300), 0), ((1, 301), 0))

    def test_exponents_beyond_the_limits(self):
        row = Row(10)
        self.check({"L": 2, "A": 2, "S": 2}, row, ((9, 1000), 1000), ((9, 1000), 1000))
        self.check({"L": 2, "A": 2, "S": 2}, row, ((LONGEST, 1000), 1000), ((LONGEST, 1000), 1000))
        self.check({"L": 2, "A": 2, "S": 0}, row, ((9, 1000), 1000), ((8, 1000), 1000))
        self.check({"R": 2, "L": 0, "A": 2, "S": 2}, row, ((9, 999), 999), ((89, 998), 998))
        self.check({"R": 2, "L": 2, "A": 2, "S": 0}, row, ((9, 999), 999), ((8, 999), 999))
        self.check({"L": 2, "A": 0, "S": 2}, Row(2, last=1000), ((-1, 1000), 1000), ((1, 1000), 1000))

    def test_long_numbers(self):
        for row in (Row(2), Row(10, move=10 ** 6), Row(36, add=9), Row(10, last=7)):
            numbers = some_long_numbers(row.base, 18, 8)
            for one, other, position in zip(numbers, numbers[1:], [-1000, 7, 0, -500] * 2):
                start, goal = (one, position), (other, -position // 200)
                found = slacks(row, start, goal)
                self.assertEqual(list(found), [letter for letter in "RLAS" if letter != "R" or position != row.last
                                               if letter != "L" or position != -1000])
                least = min(found.values())
                self.assertEqual(least, 0)
                for letter in "RL":
                    if letter in found:
                        after = distance(row, run(row, start, [(letter, 1)]), goal)
                        self.assertEqual(found[letter], row.move_cost + after - distance(row, start, goal))

    def test_results_are_new(self):
        found = slacks(Row(10), ZERO, NINE)
        found.clear()
        found["A"] = 7
        self.assertEqual(slacks(Row(10), ZERO, NINE), {"R": 0, "L": 2, "A": 2, "S": 0})


class FirstOperationsTest(ChoicesCase):
    def test_examples(self):
        self.assertEqual(first_operations(Row(10), ZERO, NINE), "RS")
        self.assertEqual(first_operations(Row(10), ZERO, ((1, 0), 0)), "A")
        self.assertEqual(first_operations(Row(10), ZERO, ((0, 0), -1)), "L")
        self.assertEqual(first_operations(Row(10), ZERO, ZERO), "")

    def test_empty_exactly_for_equal_states(self):
        states = [ZERO, NINE, ((0, 0), 1), ((-9, 0), 0), ((LONGEST, 1000), 1000), ((7, -1000), -1000)]
        for start in states:
            for goal in states:
                self.assertEqual(first_operations(Row(10), start, goal) == "", start == goal)
                self.assertIs(type(first_operations(Row(10), start, goal)), str)

    def test_following_them(self):
        for row in SMALL_ROWS:
            for start, goal in some_pairs(row, 3, 5):
                if distance(row, start, goal) < 200:
                    self.follow(row, start, goal)
        self.follow(Row(10), ZERO, ((12345678987654321, -3), 4))
        self.follow(Row(2, move=3, first=-2), ZERO, ((12345677, -2), 4))


class ErrorsTest(unittest.TestCase):
    def test_invalid_states(self):
        row = Row(10, first=-3, last=4)
        for value in NO_STATES:
            for call in (slacks, first_operations):
                for start, goal in [(value, ZERO), (ZERO, value), (value, ((20, 0), 0))]:
                    with self.subTest(name=call.__name__, value=value):
                        with self.assertRaises(InvalidState) as caught:
                            call(row, start, goal)
                        self.assertIs(caught.exception.value, value)


if __name__ == "__main__":
    unittest.main()
