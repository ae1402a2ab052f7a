"""Effects: point [7], point [3] (a) and the section abacushead/effects.py."""

import random
import unittest

from abacushead.effects import changed, composed, effect_of, inverse, is_effect
from abacushead.errors import InvalidEffect, InvalidSequence, InvalidState, LimitExceeded, OutOfRow
from abacushead.numbers import make_number
from abacushead.rows import Row
from abacushead.running import run
from abacushead.sequences import joined, packed, reversed_of
from samples import (LONGEST, NO_NUMBERS, NO_PLACES, OTHER_KINDS, performed, runs_of, some_long_numbers, some_texts,
                     worth)

FAR = 10 ** 399
BASES = (2, 3, 10, 36)
TEXTS = ["", "R", "L", "A", "S", "AR", "RA", "AAR"] + some_texts(3, 80, 9)
NOTHING = ((0, 0), 0)

NO_EFFECTS = [(value, 0) for value in NO_NUMBERS] + [((0, 0), value) for value in NO_PLACES] + OTHER_KINDS + [
    [(0, 0), 0], ([0, 0], 0), (), ((0, 0),), ((0, 0), 0, 0), (0, 0), [], [[0, 0], 0], "0:0", (((0, 0), 0), 0),
    ((0, 0), (0,)), ((0, 0), (0, 0)), (None, None),
]


def some_effects(base, seed, count):
    """The same effects in each run: short and long ones."""
    chance = random.Random(seed)
    effects = [NOTHING, ((1, 0), 0), ((0, 0), 1), ((-1, 0), -1)]
    while len(effects) < count:
        size = chance.choice([1, base, 10 ** 9, 10 ** 40])
        number = make_number(base, chance.randint(-size, size), chance.randint(-20, 20))
        effects.append((number, chance.randint(-20, 20)))
    return effects


class EffectsCase(unittest.TestCase):
    def check_effect(self, base, result, expected):
        self.assertEqual(result, expected)
        self.assertIs(is_effect(base, result), True)
        self.assertEqual([type(part) for part in (result, *result, *result[0])], [tuple, tuple, int, int, int])

    def check_error(self, error, attribute, expected, function, *arguments):
        with self.assertRaises(error) as caught:
            function(*arguments)
        self.assertEqual(getattr(caught.exception, attribute), expected)
        self.assertIs(type(getattr(caught.exception, attribute)), type(expected))

    def check_limit(self, limit, function, *arguments):
        self.check_error(LimitExceeded, "limit", limit, function, *arguments)


class IsEffectTest(unittest.TestCase):
    def check(self, expected, base, *values):
        for value in values:
            with self.subTest(base=base, value=value):
                self.assertIs(is_effect(base, value), expected)

    def test_effects(self):
        for base in BASES:
            self.check(True, base, NOTHING, ((1, 0), 0), ((-1, -1000), 5), ((base + 1, 1000), -5))
            self.check(True, base, *some_effects(base, 1, 40))

    def test_limits_of_offsets(self):
        for number in [(0, 0), (7, 3)]:
            self.check(True, 10, (number, 1000), (number, -1000), (number, 999), (number, -999))
            self.check(False, 10, (number, 1001), (number, -1001), (number, FAR), (number, -FAR))

    def test_limits_of_numbers(self):
        self.check(True, 10, ((LONGEST, 1000), 1000), ((-LONGEST, -1000), -1000))
        self.check(False, 10, ((10 ** 300 + 1, 0), 0), ((7, 1001), 0), ((7, -1001), 0))

    def test_numbers_of_other_bases(self):
        self.check(True, 3, ((10, 0), 0))
        self.check(False, 10, ((10, 0), 0))
        self.check(False, 2, ((10, 0), 0))

    def test_other_values(self):
        self.check(False, 10, *NO_EFFECTS)

    def test_value_is_not_changed(self):
        value = [[1, 0], 0]
        is_effect(10, value)
        self.assertEqual(value, [[1, 0], 0])


class EffectOfTest(EffectsCase):
    def test_example(self):
        self.check_effect(10, effect_of(10, [("A", 3), ("R", 1)]), ((3, 0), 1))

    def test_texts(self):
        for base in BASES:
            for text in TEXTS:
                number, offset = effect_of(base, runs_of(text))
                self.assertEqual((worth(base, number), offset), performed(base, ((0, 0), 0), text)[-1])
                self.assertIs(is_effect(base, (number, offset)), True)
        self.check_effect(10, effect_of(10, []), NOTHING)

    def test_against_run(self):
        for base in BASES:
            row = Row(base)
            for state in [((0, 0), 0), ((7, -3), -4), ((-101, 2), 10), ((1, 40), 30)]:
                for text in TEXTS:
                    way = runs_of(text)
                    self.assertEqual(changed(base, state, effect_of(base, way)), run(row, state, way))

    def test_great_counts(self):
        self.check_effect(10, effect_of(10, [("A", FAR)]), ((1, 399), 0))
        way = [("R", 999), ("L", 4), ("S", 10 ** 5), ("R", 5)]
        self.check_effect(10, effect_of(10, way), ((-1, 1000), 1000))
        self.check_effect(2, effect_of(2, [("L", 1000), ("A", 2 ** 1300), ("R", 700)]), ((1, 300), -300))

    def test_invalid_sequences(self):
        self.check_error(InvalidSequence, "index", None, effect_of, 10, ())
        self.check_error(InvalidSequence, "index", 1, effect_of, 10, [("R", 1001), ("R", 1)])
        self.check_error(InvalidSequence, "index", 2, effect_of, 10, [("A", FAR + 1), ("R", FAR), ("X", 1)])

    def test_limits_of_offsets(self):
        self.check_effect(10, effect_of(10, [("R", 1000)]), ((0, 0), 1000))
        self.check_effect(10, effect_of(10, [("L", 1000), ("R", 2000)]), ((0, 0), 1000))
        self.check_limit(1000, effect_of, 10, [("R", 1001)])
        self.check_limit(1000, effect_of, 10, [("L", 1001)])
        self.check_limit(1000, effect_of, 10, [("L", FAR)])

    def test_limits_of_offsets_on_the_way(self):
        self.check_limit(1000, effect_of, 10, [("R", 1001), ("L", 1)])
        self.check_limit(1000, effect_of, 10, [("L", 1001), ("A", 1), ("R", 1001)])
        self.check_limit(1000, effect_of, 10, [("R", 1000), ("A", 1), ("R", 1), ("L", 5)])
        self.check_limit(1000, effect_of, 10, [("R", FAR), ("L", FAR)])
        self.check_limit(1000, effect_of, 10, [("A", FAR + 1), ("R", 1001), ("L", 1001)])

    def test_limits_of_numbers(self):
        self.check_effect(10, effect_of(10, [("A", LONGEST), ("R", 1)]), ((LONGEST, 0), 1))
        self.check_limit(300, effect_of, 10, [("A", 10 ** 300 + 1)])
        self.check_limit(300, effect_of, 10, [("A", 1), ("R", 300), ("A", 1)])
        self.check_limit(1000, effect_of, 10, [("R", 1000), ("A", 10)])
        self.check_limit(300, effect_of, 2, [("L", 1000), ("A", 1), ("R", 2000), ("S", 1)])
        self.check_limit(300, effect_of, 10, [("R", 1000), ("A", 10 ** 301 + 10)])

    def test_numbers_on_the_way(self):
        way = [("A", 1), ("R", 900), ("A", FAR), ("L", 900), ("S", 1), ("R", 900), ("S", FAR - 5)]
        self.check_effect(10, effect_of(10, way), ((5, 900), 900))

    def test_arguments_stay(self):
        way = [("A", 3), ("R", 1)]
        effect_of(10, way)
        self.assertEqual(way, [("A", 3), ("R", 1)])


class ComposedTest(EffectsCase):
    def test_example(self):
        one = ((3, 0), 1)
        self.check_effect(10, composed(10, one, one), ((33, 0), 2))

    def test_none_and_one(self):
        for base in BASES:
            self.check_effect(base, composed(base), NOTHING)
            for effect in some_effects(base, 2, 30):
                self.check_effect(base, composed(base, effect), effect)

    def test_against_joined(self):
        for base in BASES:
            for one, two, three in zip(TEXTS, TEXTS[7:], TEXTS[13:]):
                ways = [runs_of(one), runs_of(two), runs_of(three)]
                effects = [effect_of(base, way) for way in ways]
                for count in range(4):
                    expected = effect_of(base, joined(*ways[:count]))
                    self.check_effect(base, composed(base, *effects[:count]), expected)

    def test_nothing_changes_nothing(self):
        for effect in some_effects(10, 3, 30):
            self.check_effect(10, composed(10, NOTHING, effect), effect)
            self.check_effect(10, composed(10, effect, NOTHING), effect)

    def test_grouping(self):
        effects = some_effects(10, 4, 12)
        for one in effects:
            for two in effects:
                for three in effects:
                    whole = composed(10, one, two, three)
                    self.assertEqual(composed(10, composed(10, one, two), three), whole)
                    self.assertEqual(composed(10, one, composed(10, two, three)), whole)

    def test_numbers_and_offsets_on_the_way_beyond_the_limits(self):
        right, left = ((0, 0), 1000), ((0, 0), -1000)
        self.check_effect(10, composed(10, right, right, left), right)
        self.check_effect(10, composed(10, *[right] * 25, *[left] * 25), NOTHING)
        self.check_effect(10, composed(10, ((7, 1000), 1000), ((-7, 0), -1000)), NOTHING)
        self.check_effect(10, composed(10, right, ((3, 1000), 0), ((-3, 1000), 0), left), NOTHING)
        self.check_effect(10, composed(10, ((1, 0), 0), ((1, 900), 0), ((-1, 900), 0)), ((1, 0), 0))
        self.check_effect(10, composed(10, left, ((3, -900), 0), ((4, 1000), 0), ((-3, -900), 1000)), ((4, 0), 0))

    def test_fifty_effects(self):
        self.check_effect(10, composed(10, *[((1, 0), 1)] * 50), (((10 ** 50 - 1) // 9, 0), 50))
        self.check_effect(2, composed(2, *[((-1, 0), -1)] * 50), ((-(2 ** 50 - 1), -49), -50))

    def test_invalid_effects(self):
        good = ((3, 0), 1)
        for value in NO_EFFECTS:
            with self.subTest(value=value):
                self.check_error(InvalidEffect, "value", value, composed, 10, value)
                self.check_error(InvalidEffect, "value", value, composed, 10, good, value, None)
                self.check_error(InvalidEffect, "value", value, composed, 10, ((0, 0), 1000), ((0, 0), 1000), value)
        self.check_error(InvalidEffect, "value", [good, good], composed, 10, [good, good])

    def test_limits(self):
        right = ((0, 0), 1000)
        self.check_limit(1000, composed, 10, right, ((0, 0), 1))
        self.check_limit(1000, composed, 10, ((0, 0), -1000), ((1, 0), -1))
        self.check_limit(1000, composed, 10, *[right] * 50)
        self.check_limit(300, composed, 10, ((1, 0), 0), ((1, 300), 0))
        self.check_limit(300, composed, 10, ((LONGEST, 0), 0), ((2, 0), 0))
        self.check_limit(1000, composed, 10, ((0, 0), 1), ((1, 1000), 0))
        self.check_limit(1000, composed, 10, ((0, 0), -1), ((1, -1000), 0))
        self.check_limit(1000, composed, 10, ((5, 1000), 0), ((5, 1000), 0))

    def test_order_of_the_limits(self):
        self.check_limit(1000, composed, 10, ((1, 0), 1000), ((1, 0), 1))
        self.check_limit(300, composed, 10, ((1, 0), 1000), ((1, 0), 0))
        self.check_limit(300, composed, 10, ((1, 0), 1000), ((1, 1000), 0))


class InverseTest(EffectsCase):
    def test_example(self):
        self.check_effect(10, inverse(10, ((3, 0), 1)), ((-3, -1), -1))

    def test_composed_with_the_effect(self):
        for base in BASES:
            for effect in some_effects(base, 5, 60):
                back = inverse(base, effect)
                self.check_effect(base, composed(base, effect, back), NOTHING)
                self.check_effect(base, composed(base, back, effect), NOTHING)
                self.check_effect(base, inverse(base, back), effect)

    def test_against_reversed(self):
        for base in BASES:
            for text in TEXTS:
                way = runs_of(text)
                self.check_effect(base, inverse(base, effect_of(base, way)), effect_of(base, reversed_of(way)))

    def test_limits(self):
        self.check_effect(10, inverse(10, ((0, 0), 1000)), ((0, 0), -1000))
        self.check_effect(10, inverse(10, ((7, 0), 1000)), ((-7, -1000), -1000))
        self.check_effect(10, inverse(10, ((-LONGEST, 1000), 1000)), ((LONGEST, 0), -1000))
        self.check_limit(1000, inverse, 10, ((7, -1), 1000))
        self.check_limit(1000, inverse, 10, ((7, 1000), -1))
        self.check_limit(1000, inverse, 10, ((-7, 1), -1000))

    def test_invalid_effects(self):
        for value in NO_EFFECTS:
            with self.subTest(value=value):
                self.check_error(InvalidEffect, "value", value, inverse, 10, value)


class ChangedTest(EffectsCase):
    def test_examples(self):
        self.check_effect(10, changed(10, ((5, 0), 2), ((3, -1), -4)), ((35, 0), -2))
        self.check_effect(10, changed(10, ((0, 0), 0), NOTHING), ((0, 0), 0))
        self.check_effect(10, changed(10, ((7, 0), 1), ((3, -1), 0)), ((1, 1), 1))

    def test_composition(self):
        for base in BASES:
            effects = some_effects(base, 6, 14)
            for state in effects:
                for one in effects:
                    for other in effects:
                        expected = changed(base, changed(base, state, one), other)
                        self.check_effect(base, changed(base, state, composed(base, one, other)), expected)

    def test_inverse_leads_back(self):
        for effect in some_effects(10, 7, 40):
            for state in some_effects(10, 8, 20):
                self.check_effect(10, changed(10, changed(10, state, effect), inverse(10, effect)), state)

    def test_long_numbers(self):
        for number in some_long_numbers(10, 9, 20):
            exponent = number[1]
            if abs(exponent) < 900:
                effect = ((-number[0], 0), 3)
                self.check_effect(10, changed(10, (number, exponent), effect), ((0, 0), exponent + 3))

    def test_numbers_on_the_way_beyond_the_limits(self):
        self.check_effect(2, changed(2, ((1, 900), 900), ((1, 900), 0)), ((2 ** 900 + 1, 900), 900))
        self.check_effect(10, changed(10, ((0, 0), 1000), ((7, -1000), -1000)), ((7, 0), 0))
        self.check_limit(300, changed, 10, ((1, 0), 1000), ((7, 1000), 0))
        self.check_limit(300, changed, 10, ((1, 1000), 0), ((7, 0), 0))
        self.check_limit(1000, changed, 10, ((0, 0), 1000), ((7, 1), 0))
        self.check_limit(1000, changed, 10, ((0, 0), -1), ((7, -1000), 0))
        self.check_limit(1000, changed, 10, ((9, 1000), 1000), ((1, 0), 0))

    def test_limits_of_positions(self):
        self.check_effect(10, changed(10, ((0, 0), 1), ((0, 0), 999)), ((0, 0), 1000))
        self.check_effect(10, changed(10, ((0, 0), -1000), ((0, 0), 1000)), ((0, 0), 0))
        self.check_limit(1000, changed, 10, ((0, 0), 1), ((0, 0), 1000))
        self.check_limit(1000, changed, 10, ((0, 0), -1), ((0, 0), -1000))
        self.check_limit(1000, changed, 10, ((LONGEST, 0), 1), ((2, -1), 1000))
        self.check_limit(300, changed, 10, ((LONGEST, 0), 1), ((2, -1), 999))

    def test_invalid_states_and_effects(self):
        for value in NO_EFFECTS:
            with self.subTest(value=value):
                self.check_error(InvalidState, "value", value, changed, 10, value, NOTHING)
                self.check_error(InvalidState, "value", value, changed, 10, value, None)
                self.check_error(InvalidEffect, "value", value, changed, 10, ((0, 0), 0), value)
                self.check_error(InvalidEffect, "value", value, changed, 10, ((LONGEST, 1000), 1000), value)


class EqualEffectsTest(unittest.TestCase):
    """Point [3] (a)."""

    STATES = [((0, 0), 0), ((7, -3), 1), ((-101, 2), -1), ((13, 0), 0)]

    def changes(self, row, way):
        """What a sequence makes of each state, None where it leaves the row."""
        found = []
        for state in self.STATES:
            try:
                found.append(run(row, state, way))
            except OutOfRow:
                found.append(None)
        return found

    def test_texts(self):
        for row in (Row(10), Row(2), Row(3, first=-3, last=2), Row(10, last=1)):
            ways = [runs_of(text) for text in some_texts(10, 90, 5)]
            effects = [effect_of(row.base, way) for way in ways]
            found = [self.changes(row, way) for way in ways]
            for one, first in zip(effects, found):
                for other, second in zip(effects, found):
                    pairs = [(a, b) for a, b in zip(first, second) if a is not None and b is not None]
                    if one == other:
                        self.assertTrue(all(a == b for a, b in pairs))
                    else:
                        self.assertTrue(all(a != b for a, b in pairs))

    def test_sequences_with_equal_effects(self):
        for base, one, other in [(2, "AA", "RAL"), (3, "AARAL", "RRALLS" + "S" * 3), (10, "A" * 10, "RAL"),
                                 (10, "RSL", "S" * 10), (2, "AASS", ""), (10, "RLRL", ""), (10, "LRA", "ALR")]:
            effects = (effect_of(base, packed(one)), effect_of(base, packed(other)))
            same = self.changes(Row(base), packed(one)) == self.changes(Row(base), packed(other))
            self.assertEqual(same, effects[0] == effects[1])
        self.assertEqual(effect_of(10, packed("RAL")), effect_of(10, packed("A" * 10)))


if __name__ == "__main__":
    unittest.main()
