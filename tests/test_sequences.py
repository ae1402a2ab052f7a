"""Sequences put together: point [6] and the section abacushead/sequences.py."""

import unittest
from itertools import islice

from abacushead.errors import LimitExceeded
from abacushead.rows import Row
from abacushead.running import cost_of
from abacushead.sequences import expanded, is_sequence, joined, operations, packed, reversed_of
from samples import BACK, runs_of, some_texts, text_of

FAR = 10 ** 399
TEXTS = ["", "R", "A", "RR", "RA", "RRA", "AL", "ALLSSRA", "RLRLASAS", "AAAA", "SSSR", "RSSS"] + some_texts(1, 40, 12)


class SequencesCase(unittest.TestCase):
    def check_sequence(self, result, expected):
        self.assertEqual(result, expected)
        self.assertIs(type(result), list)
        for step in result:
            self.assertIs(type(step), tuple)
            self.assertEqual([type(part) for part in step], [str, int])
        self.assertIs(is_sequence(result), True)


class IsSequenceTest(unittest.TestCase):
    def test_sequences(self):
        for value in [[], [("R", 1)], [("L", 2)], [("A", 3)], [("S", 4)], [("R", 2), ("A", 1)],
                      [("R", 1), ("L", 1), ("R", 1)], [("A", 1), ("S", 1), ("A", 1)],
                      [("R", FAR), ("L", FAR), ("A", 10 ** 5), ("S", 1)]]:
            with self.subTest(value=value):
                self.assertIs(is_sequence(value), True)

    def test_neighbours_with_the_same_operation(self):
        for letter in "RLAS":
            self.assertIs(is_sequence([(letter, 1), (letter, 1)]), False)
            self.assertIs(is_sequence([("R", 1), ("A", 1), (letter, 1), (letter, 2)]), False)

    def test_value_is_not_changed(self):
        value = [("R", 1), ("R", 2), ["A", 0]]
        is_sequence(value)
        self.assertEqual(value, [("R", 1), ("R", 2), ["A", 0]])


class JoinedTest(SequencesCase):
    def test_example(self):
        self.check_sequence(joined(packed("RRA"), packed("AL")), [("R", 2), ("A", 2), ("L", 1)])

    def test_none(self):
        self.check_sequence(joined(), [])
        self.assertIsNot(joined(), joined())

    def test_one(self):
        for text in TEXTS:
            one = runs_of(text)
            self.check_sequence(joined(one), one)
            self.assertIsNot(joined(one), one)

    def test_two(self):
        for one in TEXTS:
            for other in TEXTS:
                self.check_sequence(joined(runs_of(one), runs_of(other)), runs_of(one + other))

    def test_three(self):
        some = TEXTS[:20]
        for one in some:
            for two in some:
                for three in some:
                    result = joined(runs_of(one), runs_of(two), runs_of(three))
                    self.check_sequence(result, runs_of(one + two + three))

    def test_many(self):
        self.check_sequence(joined(*[runs_of(text) for text in TEXTS]), runs_of("".join(TEXTS)))

    def test_through_empty_sequences(self):
        self.check_sequence(joined([("R", 2)], [], [("R", 3)]), [("R", 5)])
        self.check_sequence(joined([], [], [("S", 1)], [], [], [("S", 1)], []), [("S", 2)])
        self.check_sequence(joined([], []), [])
        self.check_sequence(joined([("A", 1)], [("A", 1)], [("A", 1)]), [("A", 3)])

    def test_opposite_operations_stay(self):
        self.check_sequence(joined([("R", 1)], [("L", 1)]), [("R", 1), ("L", 1)])
        self.check_sequence(joined([("A", 2)], [("S", 2)]), [("A", 2), ("S", 2)])

    def test_great_counts(self):
        self.check_sequence(joined([("A", FAR)], [("A", FAR), ("R", 1)]), [("A", 2 * FAR), ("R", 1)])
        self.check_sequence(joined([("R", 10 ** 5)], [("R", 10 ** 5)]), [("R", 2 * 10 ** 5)])

    def test_long_sequences(self):
        one = [("R", 1), ("A", 1)] * 2500
        result = joined(one, one)
        self.check_sequence(result, one + one)
        self.assertEqual(len(joined(*[result] * 10)), 100000)

    def test_arguments_stay_and_results_are_new(self):
        one, other = [("R", 2)], [("R", 1), ("A", 1)]
        result = joined(one, other)
        result.append(("L", 7))
        self.assertEqual((one, other), ([("R", 2)], [("R", 1), ("A", 1)]))
        self.assertEqual(joined(one, other), [("R", 3), ("A", 1)])
        self.assertEqual(joined(one, one), [("R", 4)])
        self.assertEqual(one, [("R", 2)])


class OperationsTest(unittest.TestCase):
    def test_one_by_one(self):
        for text in TEXTS:
            with self.subTest(text=text):
                self.assertEqual("".join(operations(runs_of(text))), text)

    def test_each_is_a_letter(self):
        self.assertEqual(list(operations([("R", 2), ("S", 3)])), ["R", "R", "S", "S", "S"])

    def test_next(self):
        steps = operations([("R", 1), ("A", 1)])
        self.assertEqual([next(steps), next(steps), next(steps, None), next(steps, None)], ["R", "A", None, None])

    def test_great_counts(self):
        self.assertEqual(sum(1 for _ in operations([("A", 10 ** 5), ("L", 2)])), 10 ** 5 + 2)
        for count in (10 ** 12, 2 ** 64, FAR):
            steps = operations([("R", 1), ("A", count), ("L", 1)])
            self.assertEqual("".join(islice(steps, 1000)), "R" + "A" * 999)

    def test_sequence_as_it_is_when_the_iteration_begins(self):
        sequence = [("R", 1)]
        steps = operations(sequence)
        sequence.append(("A", 2))
        self.assertEqual(next(steps), "R")
        sequence.append(("L", 1))
        self.assertEqual(next(steps), "A")
        sequence.clear()
        self.assertEqual(list(steps), ["A"])

    def test_cleared_sequence(self):
        sequence = [("R", 2), ("S", 1)]
        steps = operations(sequence)
        sequence.clear()
        self.assertEqual(list(steps), [])
        sequence.append(("A", 1))
        self.assertEqual(list(steps), [])

    def test_replaced_runs(self):
        sequence = [("R", 2), ("S", 1)]
        steps = operations(sequence)
        self.assertEqual(next(steps), "R")
        sequence[0], sequence[1] = ("A", 5), ("X", 0)
        self.assertEqual("".join(steps), "RS")

    def test_iterations_are_independent(self):
        sequence = [("R", 2)]
        one, other = operations(sequence), operations(sequence)
        self.assertEqual((next(one), next(one), next(other), next(one, None)), ("R", "R", "R", None))
        self.assertEqual(sequence, [("R", 2)])


class ReversedTest(SequencesCase):
    def test_example(self):
        self.check_sequence(reversed_of([("R", 2), ("A", 1)]), [("S", 1), ("L", 2)])

    def test_texts(self):
        for text in TEXTS:
            back = "".join(BACK[letter] for letter in reversed(text))
            self.check_sequence(reversed_of(runs_of(text)), runs_of(back))

    def test_twice(self):
        for text in TEXTS:
            self.check_sequence(reversed_of(reversed_of(runs_of(text))), runs_of(text))

    def test_great_counts(self):
        self.check_sequence(reversed_of([("L", FAR), ("S", 10 ** 5)]), [("A", 10 ** 5), ("R", FAR)])

    def test_cost_stays(self):
        row = Row(10, move=3, add=7)
        for text in TEXTS:
            self.assertEqual(cost_of(row, reversed_of(runs_of(text))), cost_of(row, runs_of(text)))

    def test_arguments_stay_and_results_are_new(self):
        sequence = [("R", 2), ("A", 1)]
        reversed_of(sequence).append(("R", 1))
        self.assertEqual(sequence, [("R", 2), ("A", 1)])
        self.assertEqual(reversed_of(sequence), [("S", 1), ("L", 2)])
        empty = []
        self.assertIsNot(reversed_of(empty), empty)


class TextsTest(SequencesCase):
    def test_packed(self):
        for text in TEXTS:
            self.check_sequence(packed(text), runs_of(text))
        self.check_sequence(packed(""), [])
        self.check_sequence(packed("RRRAAL"), [("R", 3), ("A", 2), ("L", 1)])

    def test_expanded(self):
        self.assertEqual(expanded([]), "")
        self.assertEqual(expanded([("R", 3), ("A", 2), ("L", 1)]), "RRRAAL")
        for text in TEXTS:
            self.assertEqual(expanded(runs_of(text)), text)

    def test_there_and_back(self):
        for text in TEXTS:
            self.assertEqual(expanded(packed(text)), text)
            self.check_sequence(packed(expanded(runs_of(text))), runs_of(text))

    def test_long_texts(self):
        text = "RRAALS" * 3000
        self.check_sequence(packed(text), runs_of(text))
        self.check_sequence(packed("A" * 20000), [("A", 20000)])

    def test_longest_expansion(self):
        for sequence in ([("A", 5000)], [("A", 4999), ("R", 1)], [("R", 1), ("A", 1)] * 2500):
            text = expanded(sequence)
            self.assertEqual(len(text), 5000)
            self.assertEqual(text, text_of(sequence))

    def test_too_long_expansions(self):
        for sequence in ([("A", 5001)], [("A", 5000), ("R", 1)], [("L", 1), ("A", 5000)], [("S", 10 ** 5)],
                         [("R", 1), ("A", 1)] * 2499 + [("R", 3)], [("A", FAR)], [("L", 2 ** 64)]):
            with self.assertRaises(LimitExceeded) as caught:
                expanded(sequence)
            self.assertEqual(caught.exception.limit, 5000)

    def test_arguments_stay(self):
        sequence = [("R", 2), ("A", 1)]
        expanded(sequence)
        self.assertEqual(sequence, [("R", 2), ("A", 1)])
        self.assertIsNot(packed("RA"), packed("RA"))


if __name__ == "__main__":
    unittest.main()
