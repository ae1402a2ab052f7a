"""Running sequences: points [5] and [6] and the section abacushead/running.py."""

import inspect
import random
import unittest

from abacushead.errors import InvalidSequence, InvalidState, LimitExceeded, OutOfRow
from abacushead.numbers import make_number
from abacushead.rows import Row
from abacushead.running import cost_of, run, visited, walk
from abacushead.sequences import reversed_of
from abacushead.states import is_state
from samples import (LONGEST, NO_STATES, cost_of_text, performed, runs_of, some_long_numbers, some_texts,
                     worth)

FAR = 10 ** 399
ROWS = [Row(2), Row(10, move=2, add=3), Row(36, first=-2), Row(10, last=2), Row(3, first=-1, last=1),
        Row(10, first=0, last=0)]
TEXTS = ["", "R", "L", "A", "S", "RRA", "LLS"] + some_texts(2, 120, 10)


def states_of(row):
    """Some states of a row, the same ones in each run."""
    states = []
    for position in (-1, 0, 1, 2):
        for number in [(0, 0), (1, 0), (-1, 1), (7, 2), (-101, 0), (35, -1), (LONGEST, 7), (-LONGEST, 3)]:
            if is_state(row, (number, position)):
                states.append((number, position))
    return states


class RunningCase(unittest.TestCase):
    def check_both(self, error, attribute, expected, row, state, sequence):
        """Both run and the whole walk raise the error."""
        for call in (run, lambda *arguments: list(walk(*arguments))):
            with self.assertRaises(error) as caught:
                call(row, state, sequence)
            self.assertEqual(getattr(caught.exception, attribute), expected)


class RunTest(RunningCase):
    def test_example(self):
        row = Row(10, move=2, add=3)
        way = [("R", 2), ("A", 5), ("L", 1), ("S", 1)]
        self.assertEqual(run(row, ((0, 0), 0), way), ((49, 1), 1))
        self.assertEqual(cost_of(row, way), 24)

    def test_each_operation(self):
        row = Row(10)
        self.assertEqual(run(row, ((5, 0), 3), [("R", 1)]), ((5, 0), 4))
        self.assertEqual(run(row, ((5, 0), 3), [("L", 1)]), ((5, 0), 2))
        self.assertEqual(run(row, ((5, 0), 3), [("A", 1)]), ((1005, 0), 3))
        self.assertEqual(run(row, ((5, 0), 3), [("S", 1)]), ((-995, 0), 3))
        self.assertEqual(run(row, ((5, 0), -1), [("S", 1)]), ((49, -1), -1))
        self.assertEqual(run(row, ((5, 0), 0), [("S", 5)]), ((0, 0), 0))
        self.assertEqual(run(row, ((5, 0), 0), [("A", 5)]), ((1, 1), 0))

    def test_no_operation(self):
        for row in ROWS:
            for state in states_of(row):
                self.assertEqual(run(row, state, []), state)
                self.assertEqual(list(walk(row, state, [])), [])

    def test_step_by_step(self):
        for row in ROWS:
            for state in states_of(row):
                for text in TEXTS:
                    passed = performed(row.base, state, text)
                    if all(row.has_place(position) for _, position in passed) and state[0][0] ** 2 < 10 ** 99:
                        number, position = run(row, state, runs_of(text))
                        self.assertEqual((worth(row.base, number), position), passed[-1])
                        self.assertTrue(is_state(row, (number, position)))

    def test_result_is_in_its_form(self):
        number, position = run(Row(10), ((99, 0), 0), [("A", 1)])
        self.assertEqual((number, position), ((1, 2), 0))
        self.assertIs(type(number), tuple)
        self.assertEqual([type(part) for part in (*number, position)], [int, int, int])

    def test_great_counts(self):
        row = Row(10)
        self.assertEqual(run(row, ((0, 0), 0), [("A", 10 ** 5)]), ((1, 5), 0))
        self.assertEqual(run(row, ((0, 0), 0), [("A", LONGEST)]), ((LONGEST, 0), 0))
        self.assertEqual(run(row, ((0, 0), -9), [("S", FAR)]), ((-1, 390), -9))
        self.assertEqual(run(row, ((0, 0), 0), [("A", FAR), ("R", 1000)]), ((1, 399), 1000))
        self.assertEqual(run(row, ((0, 0), -1000), [("R", 2000)]), ((0, 0), 1000))

    def test_numbers_on_the_way_of_any_size(self):
        row = Row(10)
        way = [("A", 1), ("R", 1000), ("A", 1), ("S", 1), ("L", 1000), ("S", 1)]
        self.assertEqual(run(row, ((5, 0), 0), way), ((5, 0), 0))
        way = [("A", FAR), ("R", 1), ("A", FAR), ("L", 1), ("S", 11 * FAR)]
        self.assertEqual(run(row, ((5, 0), 0), way), ((5, 0), 0))
        way = [("L", 1000), ("A", 1), ("R", 2000), ("A", 77), ("L", 2000), ("S", 1), ("R", 2000)]
        self.assertEqual(run(row, ((0, 0), 0), way), ((77, 1000), 1000))
        self.assertEqual(run(row, ((1, 1000), 1000), [("A", 9), ("S", 8)]), ((2, 1000), 1000))

    def test_long_sequences(self):
        way = [("R", 7), ("A", 3), ("L", 7), ("S", 2)] * 1250
        self.assertEqual(run(Row(10), ((0, 0), 0), way), (make_number(10, 1250 * (3 * 10 ** 7 - 2), 0), 0))
        way = [("A", FAR), ("R", 1)] * 1000 + [("L", 1), ("S", FAR)] * 1000
        self.assertEqual(run(Row(2), ((1, 0), 0), way), ((1, 0), 0))

    def test_arguments_stay(self):
        way = [("R", 2), ("A", 5)]
        run(Row(10), ((0, 0), 0), way)
        list(walk(Row(10), ((0, 0), 0), way))
        self.assertEqual(way, [("R", 2), ("A", 5)])

    def test_reversed_sequence_leads_back(self):
        for row in ROWS:
            for state in states_of(row):
                for text in TEXTS:
                    passed = performed(row.base, state, text)
                    if all(row.has_place(position) for _, position in passed) and state[0][0] ** 2 < 10 ** 99:
                        way = runs_of(text)
                        self.assertEqual(run(row, run(row, state, way), reversed_of(way)), state)

    def test_reversed_sequence_leads_back_from_long_numbers(self):
        way = [("L", 3), ("A", 10 ** 9), ("R", 5), ("S", 77)]
        for number in some_long_numbers(10, 3, 30):
            state = (number, max(-990, min(990, number[1])))
            if abs(number[0]) < 10 ** 250:
                self.assertEqual(run(Row(10), run(Row(10), state, way), reversed_of(way)), state)


class OutOfRowTest(RunningCase):
    def check(self, index, row, state, sequence):
        with self.subTest(settings=row.settings, state=state, sequence=sequence):
            self.check_both(OutOfRow, "index", index, row, state, sequence)

    def test_ends(self):
        row = Row(10, first=-2, last=3)
        self.check(0, row, ((0, 0), 0), [("R", 4)])
        self.check(0, row, ((0, 0), 0), [("L", 3)])
        self.check(0, row, ((0, 0), 3), [("R", 1)])
        self.check(0, row, ((0, 0), -2), [("L", 1), ("R", 1)])
        self.check(2, row, ((0, 0), 0), [("R", 3), ("A", 1), ("R", 1), ("S", 1), ("L", 9)])
        self.check(3, row, ((0, 0), 0), [("R", 3), ("L", 5), ("A", 1), ("L", 1)])
        self.check(1, row, ((0, 0), 0), [("R", 3), ("L", 6), ("R", 6)])

    def test_touched_ends(self):
        row = Row(10, first=-2, last=3)
        way = [("R", 3), ("A", 1), ("L", 5), ("A", 1), ("R", 5), ("L", 1)]
        self.assertEqual(run(row, ((0, 0), 0), way), ((100001, -2), 2))
        self.assertEqual(len(list(walk(row, ((0, 0), 0), way))), 6)
        self.assertEqual(run(Row(10, first=4, last=4), ((0, 0), 4), [("A", 2)]), ((2, 4), 4))

    def test_one_end(self):
        self.check(0, Row(10, first=0), ((0, 0), 0), [("L", 1)])
        self.check(1, Row(10, first=0), ((0, 0), 0), [("A", 1), ("R", 1001)])
        self.check(0, Row(10, last=0), ((0, 0), 0), [("R", 1)])
        self.check(1, Row(10, last=0), ((0, 0), 0), [("A", 1), ("L", 1001)])
        self.assertEqual(run(Row(10, first=0), ((0, 0), 0), [("R", 1000)]), ((0, 0), 1000))
        self.assertEqual(run(Row(10, last=0), ((0, 0), 0), [("L", 1000)]), ((0, 0), -1000))

    def test_no_ends(self):
        self.check(0, Row(10), ((0, 0), 1000), [("R", 1)])
        self.check(0, Row(10), ((0, 0), -1000), [("L", 1)])
        self.check(1, Row(10), ((0, 0), 0), [("A", 1), ("R", FAR)])
        self.check(0, Row(10), ((0, 0), 0), [("L", FAR), ("R", FAR)])

    def test_step_by_step(self):
        for row in (Row(10, first=-1, last=1), Row(2, first=0), Row(3, last=0), Row(10, first=0, last=0)):
            for text in TEXTS:
                way = runs_of(text)
                passed = [position for _, position in performed(row.base, ((0, 0), 0), text)]
                bad = [at for at, position in enumerate(passed) if not row.has_place(position)]
                if bad:
                    ends = [sum(count for _, count in way[:index + 1]) for index in range(len(way))]
                    self.check(min(index for index, end in enumerate(ends) if end >= bad[0]), row, ((0, 0), 0), way)
                else:
                    self.assertEqual(run(row, ((0, 0), 0), way)[1], passed[-1])


class ErrorsTest(RunningCase):
    def test_invalid_states(self):
        row = Row(10, first=-3, last=4)
        for value in NO_STATES:
            with self.subTest(value=value):
                self.check_both(InvalidState, "value", value, row, value, [("A", 1)])
                self.check_both(InvalidState, "value", value, row, value, [("X", 0)])
                self.check_both(InvalidState, "value", value, row, value, None)

    def test_order(self):
        row, far = Row(10, last=4), [("A", FAR + 1), ("R", 1)]
        self.check_both(InvalidState, "value", ((0, 0), 5), row, ((0, 0), 5), [("X", 1)])
        self.check_both(InvalidSequence, "index", 3, row, ((0, 0), 4), far + [("L", 1), ("X", 1)])
        self.check_both(InvalidSequence, "index", None, row, ((0, 0), 4), tuple(far))
        with self.assertRaises(OutOfRow) as caught:
            run(row, ((0, 0), 4), far)
        self.assertEqual(caught.exception.index, 1)
        with self.assertRaises(OutOfRow) as caught:
            run(Row(2), ((1, 0), 1000), [("A", 2 ** 999 + 1), ("R", 1)])
        self.assertEqual(caught.exception.index, 1)

    def test_limits(self):
        self.check_both(LimitExceeded, "limit", 300, Row(10), ((0, 0), 0), [("A", 10 ** 300 + 1)])
        self.check_both(LimitExceeded, "limit", 300, Row(10), ((LONGEST, 0), 0), [("A", 2)])
        self.check_both(LimitExceeded, "limit", 300, Row(10), ((1, 300), 0), [("S", 1), ("A", 2), ("R", 1)])
        self.check_both(LimitExceeded, "limit", 300, Row(2), ((1, -1000), 1000), [("S", 1)])
        self.check_both(LimitExceeded, "limit", 1000, Row(10), ((0, 0), 1000), [("A", 10)])
        self.check_both(LimitExceeded, "limit", 1000, Row(10), ((LONGEST, 701), 701), [("A", 1)])
        self.check_both(LimitExceeded, "limit", 1000, Row(2), ((-1, 1000), 1000), [("S", 1)])
        self.check_both(LimitExceeded, "limit", 300, Row(36), ((0, 0), 1000), [("A", 36 ** 200 + 1)])


class WalkTest(RunningCase):
    def check_then(self, error, attribute, expected, before, row, state, sequence):
        """The walk yields the states before, then raises the error."""
        states, found = walk(row, state, sequence), []
        with self.assertRaises(error) as caught:
            for reached in states:
                found.append(reached)
        self.assertEqual(getattr(caught.exception, attribute), expected)
        self.assertEqual(found, before)

    def test_states_after_each_run(self):
        way = [("R", 2), ("A", 5), ("L", 1), ("S", 1)]
        expected = [((0, 0), 2), ((5, 2), 2), ((5, 2), 1), ((49, 1), 1)]
        self.assertEqual(list(walk(Row(10), ((0, 0), 0), way)), expected)

    def test_as_run(self):
        for row in ROWS:
            for state in states_of(row):
                for text in TEXTS[:40]:
                    way = runs_of(text)
                    if all(row.has_place(position) for _, position in performed(row.base, state, text)):
                        if state[0][0] ** 2 < 10 ** 99:
                            expected = [run(row, state, way[:index + 1]) for index in range(len(way))]
                            self.assertEqual(list(walk(row, state, way)), expected)

    def test_out_of_row(self):
        row = Row(10, first=-1, last=2)
        self.check_then(OutOfRow, "index", 0, [], row, ((0, 0), 0), [("R", 3)])
        self.check_then(OutOfRow, "index", 2, [((0, 0), 2), ((4, 2), 2)], row, ((0, 0), 0),
                        [("R", 2), ("A", 4), ("R", 1), ("L", 1)])
        self.check_then(OutOfRow, "index", 1, [((9, 0), 0)], Row(10), ((0, 0), 0), [("A", 9), ("L", FAR)])

    def test_limits(self):
        self.check_then(LimitExceeded, "limit", 300, [((1, 0), 0), ((1, 0), 300)], Row(10), ((0, 0), 0),
                        [("A", 1), ("R", 300), ("A", 1), ("S", 1)])
        self.check_then(LimitExceeded, "limit", 1000, [((1, 999), 1000), ((1, 999), 999)], Row(10), ((1, 999), 999),
                        [("R", 1), ("L", 1), ("A", 99), ("S", 99)])
        self.check_then(LimitExceeded, "limit", 300, [((0, 0), 1)], Row(10), ((0, 0), 0),
                        [("R", 1), ("A", FAR + 1), ("S", FAR + 1)])

    def test_first_run_that_is_wrong(self):
        row = Row(10, last=1)
        self.check_then(OutOfRow, "index", 1, [((1, 0), 0)], row, ((0, 0), 0), [("A", 1), ("R", 2), ("A", FAR + 1)])
        self.check_then(LimitExceeded, "limit", 300, [((0, 0), 1)], row, ((0, 0), 0),
                        [("R", 1), ("A", FAR + 1), ("R", 2)])

    def test_errors_when_the_iteration_begins(self):
        states = walk(Row(10), ((10, 0), 0), None)
        with self.assertRaises(InvalidState):
            next(states)
        states = walk(Row(10, last=0), ((0, 0), 0), [("R", 1), ("A", 0)])
        with self.assertRaises(InvalidSequence) as caught:
            next(states)
        self.assertEqual(caught.exception.index, 1)
        self.assertTrue(inspect.isgenerator(walk(Row(10), None, None)))

    def test_sequence_as_it_is_when_the_iteration_begins(self):
        way = [("R", 1)]
        states = walk(Row(10), ((0, 0), 0), way)
        way.append(("A", 2))
        self.assertEqual(next(states), ((0, 0), 1))
        way[1] = ("L", 5)
        way.append(("S", 1))
        self.assertEqual(list(states), [((2, 1), 1)])
        states = walk(Row(10), ((0, 0), 0), way)
        self.assertEqual(next(states), ((0, 0), 1))
        way.clear()
        self.assertEqual(list(states), [((0, 0), -4), ((-1, -4), -4)])

    def test_states_before_a_later_error_are_reached_one_by_one(self):
        states = walk(Row(10, last=5), ((0, 0), 0), [("A", 1), ("R", 5), ("A", 1), ("R", 1)])
        self.assertEqual([next(states), next(states), next(states)], [((1, 0), 0), ((1, 0), 5), ((100001, 0), 5)])
        self.assertRaises(OutOfRow, next, states)
        self.assertIsNone(next(states, None))


class CostTest(unittest.TestCase):
    def test_texts(self):
        for row in (Row(10), Row(2, move=3, add=7), Row(10, move=10 ** 6, add=1, first=0, last=0)):
            for text in TEXTS:
                self.assertEqual(cost_of(row, runs_of(text)), cost_of_text(row, text))

    def test_each_operation(self):
        row = Row(10, move=2, add=5)
        self.assertEqual([cost_of(row, [(letter, 3)]) for letter in "RLAS"], [6, 6, 15, 15])
        self.assertEqual(cost_of(row, []), 0)

    def test_great_counts(self):
        row = Row(10, move=2, add=10 ** 6)
        self.assertEqual(cost_of(row, [("R", FAR), ("S", FAR), ("L", 10 ** 5)]), (10 ** 6 + 2) * FAR + 2 * 10 ** 5)

    def test_sequences_that_leave_the_row(self):
        self.assertEqual(cost_of(Row(10, first=0, last=0), [("R", 7), ("A", 1)]), 8)


class VisitedTest(unittest.TestCase):
    def test_texts(self):
        for position in (-5, 0, 3):
            for text in TEXTS:
                passed = [at for _, at in performed(2, ((0, 0), position), text)]
                expected = (min(passed), max(passed))
                self.assertEqual(visited(((7, 0), position), runs_of(text)), expected)

    def test_examples(self):
        way = [("R", 2), ("A", 5), ("L", 7), ("S", 1), ("R", 4)]
        self.assertEqual(visited(((0, 0), 0), way), (-5, 2))
        self.assertEqual(visited(((0, 0), 9), []), (9, 9))
        self.assertEqual(visited(((0, 0), 9), [("A", 3)]), (9, 9))
        self.assertIs(type(visited(((0, 0), 9), [])), tuple)

    def test_beyond_the_places(self):
        self.assertEqual(visited(((0, 0), 0), [("R", FAR), ("L", 2 * FAR), ("R", 1)]), (-FAR, FAR))
        self.assertEqual(visited(((0, 0), 1000), [("R", 1)]), (1000, 1001))

    def test_numbers_of_any_size(self):
        self.assertEqual(visited(((10 ** 350 + 1, 0), 3), [("L", 1)]), (2, 3))

    def test_long_random_sequences(self):
        chance = random.Random(5)
        way, position, passed = [], 0, [0]
        for index in range(5000):
            letter, count = ("RA", "LA")[chance.randint(0, 1)][index % 2], chance.randint(1, 9)
            way.append((letter, count))
            position += {"R": count, "L": -count, "A": 0}[letter]
            passed.append(position)
        self.assertEqual(visited(((0, 0), 0), way), (min(passed), max(passed)))


if __name__ == "__main__":
    unittest.main()
