"""Sequences that are invalid: point [6]."""

import unittest

from abacushead.effects import effect_of
from abacushead.errors import InvalidSequence
from abacushead.rows import Row
from abacushead.running import cost_of, run, visited, walk
from abacushead.sequences import expanded, is_sequence, joined, operations, packed, reversed_of
from samples import NO_RUNS, OTHER_KINDS

ROW = Row(10, first=-3, last=5)
STATE = ((9, 0), 0)
WAY = [("R", 2), ("A", 5), ("L", 1), ("S", 2), ("R", 3), ("A", 1)]

CALLS = {
    "joined": joined,
    "operations": lambda sequence: next(operations(sequence)),
    "reversed_of": reversed_of,
    "expanded": expanded,
    "run": lambda sequence: run(ROW, STATE, sequence),
    "walk": lambda sequence: next(walk(ROW, STATE, sequence)),
    "cost_of": lambda sequence: cost_of(ROW, sequence),
    "visited": lambda sequence: visited(STATE, sequence),
    "effect_of": lambda sequence: effect_of(10, sequence),
}


class WrongCase(unittest.TestCase):
    def check(self, index, sequence):
        self.assertIs(is_sequence(sequence), False)
        for name, call in CALLS.items():
            with self.subTest(name=name, sequence=sequence):
                self.check_call(index, call, sequence)

    def check_call(self, index, call, *arguments):
        with self.assertRaises(InvalidSequence) as caught:
            call(*arguments)
        self.assertEqual(caught.exception.index, index)
        self.assertIs(type(caught.exception.index), type(index))


class WrongRunsTest(WrongCase):
    def test_altered_run(self):
        for value in NO_RUNS:
            for index in range(len(WAY)):
                self.check(index, WAY[:index] + [value] + WAY[index + 1:])

    def test_inserted_run(self):
        for value in NO_RUNS:
            self.check(0, [value])
            self.check(0, [value] + WAY)
            self.check(6, WAY + [value])

    def test_repeated_run(self):
        for index, step in enumerate(WAY):
            self.check(index + 1, WAY[:index] + [step] + WAY[index:])
            self.check(index + 1, WAY[:index + 1] + [(step[0], 99)] + WAY[index + 1:])

    def test_removed_run(self):
        for way in ([("R", 1), ("A", 1), ("R", 1), ("A", 1), ("R", 1)], [("S", 2), ("L", 3), ("S", 2), ("L", 3)]):
            for index in range(1, len(way) - 1):
                self.check(index, way[:index] + way[index + 1:])

    def test_first_of_several(self):
        self.check(1, [("R", 1), ("A", 0), ("A", 0)])
        self.check(1, [("R", 1), ("R", 1), ("X", 1)])
        self.check(0, [("X", 1), ("X", 1)])
        self.check(1, [("R", 1), ["R", 1], ("R", 1)])
        self.check(2, [("R", 1), ("A", 1), None, ("A", 1)])

    def test_wrong_run_that_repeats(self):
        self.check(1, [("R", 1), ("R", 0)])
        self.check(1, [("R", 1), ("R", True)])
        self.check(2, [("R", 1), ("A", 1), ("A", 1), ("A", 1)])

    def test_wrong_counts(self):
        for count in (0, -1, True, False, -(10 ** 399), "1", "", None, 1.0, (1,), [1]):
            for letter in "RLAS":
                self.check(0, [(letter, count)])

    def test_runs_behind_great_counts(self):
        self.check(1, [("A", 10 ** 399), ("A", 1)])
        self.check(1, [("R", 10 ** 399), ("X", 1)])

    def test_sequence_stays(self):
        way = WAY[:3] + [["S", 2]] + WAY[4:]
        self.check(3, way)
        self.assertEqual(way, [("R", 2), ("A", 5), ("L", 1), ["S", 2], ("R", 3), ("A", 1)])


class NoListsTest(WrongCase):
    def test_values_of_other_kinds(self):
        for value in OTHER_KINDS + ["", "R", "RRA", (), (("R", 1),), ("R", 1), tuple(WAY), ("RA",)]:
            self.check(None, value)

    def test_lists_of_other_kinds(self):
        self.check(0, ["R", "A"])
        self.check(0, [[]])
        self.check(0, [[("R", 1)]])
        self.check(0, [[("R", 1)], [("A", 1)]])
        self.check(0, [(("R", 1), ("A", 1))])
        for value in OTHER_KINDS:
            self.check(0, [value])

    def test_nested_values(self):
        value = ()
        for _ in range(18):
            value = (value, 1)
        self.check(None, value)
        self.check(0, [value])


class IteratorsTest(WrongCase):
    def test_errors_when_the_iteration_begins(self):
        for sequence, index in [(None, None), ((), None), ([("R", 0)], 0), ([("R", 1), ("R", 1)], 1)]:
            steps = operations(sequence)
            states = walk(ROW, STATE, sequence)
            self.check_call(index, next, steps)
            self.check_call(index, next, states)
            self.check_call(index, list, operations(sequence))
            self.check_call(index, list, walk(ROW, STATE, sequence))

    def test_sequence_that_becomes_invalid_before(self):
        sequence = [("R", 1), ("A", 1)]
        steps, states = operations(sequence), walk(ROW, STATE, sequence)
        sequence.append(("A", 2))
        self.check_call(2, next, steps)
        self.check_call(2, next, states)

    def test_sequence_that_becomes_valid_before(self):
        sequence = [("R", 1), ("R", 1)]
        steps, states = operations(sequence), walk(ROW, STATE, sequence)
        sequence.pop()
        self.assertEqual(list(steps), ["R"])
        self.assertEqual(list(states), [((9, 0), 1)])

    def test_sequence_that_becomes_invalid_afterwards(self):
        sequence = [("R", 1), ("A", 1)]
        steps, states = operations(sequence), walk(ROW, STATE, sequence)
        self.assertEqual((next(steps), next(states)), ("R", ((9, 0), 1)))
        sequence[1] = ("R", 1)
        self.assertEqual((list(steps), list(states)), (["A"], [((19, 0), 1)]))


class JoinedTest(WrongCase):
    def test_first_invalid_argument(self):
        good, bad, worse = [("R", 1)], [("R", 1), ("R", 1)], [("A", 1), ("S", 1), ("X", 1)]
        self.check_call(1, joined, bad, worse)
        self.check_call(2, joined, worse, bad)
        self.check_call(2, joined, good, [], worse, bad, None)
        self.check_call(None, joined, good, (), bad)
        self.check_call(1, joined, good, bad, ())
        self.check_call(None, joined, None)
        self.check_call(0, joined, good, [None], good)
        self.check_call(None, joined, good, good, tuple(good))

    def test_list_of_sequences(self):
        self.check_call(0, joined, [[("R", 1)], [("A", 1)]])


class PackedTest(WrongCase):
    def test_wrong_characters(self):
        for text in ("RLAS", "R", "AAAAA", "RRASSL"):
            for wrong in "rlasX 0-1,~\t\n":
                for index in range(len(text) + 1):
                    with self.subTest(text=text, wrong=wrong, index=index):
                        self.check_call(index, packed, text[:index] + wrong + text[index:])

    def test_first_of_several(self):
        self.check_call(2, packed, "RAxRAy")
        self.check_call(0, packed, "r r")
        self.check_call(0, packed, "-")
        self.check_call(1, packed, "R2 A")
        self.check_call(19999, packed, "A" * 19999 + "B")

    def test_no_texts(self):
        for value in OTHER_KINDS + [[], ["R"], ("R", "A"), (), b"", b"RRA", [("R", 1)], ["R", "A"]]:
            if not isinstance(value, str):
                with self.subTest(value=value):
                    self.check_call(None, packed, value)


if __name__ == "__main__":
    unittest.main()
