"""Powers, roots, commuting and conjugation: point [10] and the section abacushead/powers.py."""

import time
import unittest
from fractions import Fraction

from abacushead.effects import composed, inverse, is_effect
from abacushead.errors import InvalidEffect, InvalidLimit, LimitExceeded
from abacushead.numbers import make_number
from abacushead.powers import commutes, conjugate, conjugators, power, root
from cases import NO_WHOLES, ErrorsCase
from samples import LONGEST, NO_NUMBERS, NO_PLACES, OTHER_KINDS, form_of_worth, some_long_numbers, worth

NOTHING = ((0, 0), 0)
BASES = (2, 3, 6, 10, 36)

NO_EFFECTS = [(value, 0) for value in NO_NUMBERS] + [((0, 0), value) for value in NO_PLACES] + OTHER_KINDS + [
    [(0, 0), 0], ([0, 0], 0), (), ((0, 0),), ((0, 0), 0, 0), (0, 0), [], "0:0", (((0, 0), 0), 0), (None, None),
]


def some_effects(base, offsets=(-3, -2, -1, 0, 1, 2, 3)):
    numbers = [(0, 0), (1, 0), (-1, 2), (7, -1), (5, 0), (35, -2), (-31, 1), (12345, -3)]
    return [(make_number(base, *number), offset) for number in numbers for offset in offsets]


def is_worth_of_number(base, value):
    """Whether a fraction is the worth of a number of any size."""
    rest = value.denominator
    for factor in range(2, base + 1):
        while base % factor == 0 and rest % factor == 0:
            rest //= factor
    return rest == 1


class PowersCase(ErrorsCase):
    def check_effect(self, base, result, expected):
        self.assertEqual(result, expected)
        self.assertIs(is_effect(base, result), True)

    def check_limit(self, limit, function, *arguments):
        self.check_error(LimitExceeded, "limit", limit, function, *arguments)


class PowerTest(PowersCase):
    def test_example(self):
        self.check_effect(10, power(10, ((3, 0), 1), 3), ((333, 0), 3))

    def test_against_copies(self):
        for base in BASES:
            for effect in some_effects(base):
                for exponent in range(13):
                    self.check_effect(base, power(base, effect, exponent), composed(base, *[effect] * exponent))
                    back = [inverse(base, effect)] * exponent
                    self.check_effect(base, power(base, effect, -exponent), composed(base, *back))

    def test_exponents_0_and_1(self):
        for base in BASES:
            for effect in some_effects(base, (-1000, -7, 0, 999)):
                self.check_effect(base, power(base, effect, 0), NOTHING)
                self.check_effect(base, power(base, effect, 1), effect)
        self.check_effect(10, power(10, ((LONGEST, 1000), -1000), 0), NOTHING)
        self.check_effect(10, power(10, ((LONGEST, 1000), -1000), 1), ((LONGEST, 1000), -1000))

    def test_sums_of_exponents(self):
        for base in (2, 10):
            for effect in some_effects(base, (-2, 0, 3)):
                for one in range(-4, 5):
                    for other in range(-4, 5):
                        both = composed(base, power(base, effect, one), power(base, effect, other))
                        self.check_effect(base, power(base, effect, one + other), both)
                        self.check_effect(base, power(base, power(base, effect, one), other),
                                          power(base, effect, one * other))

    def test_many_copies(self):
        self.check_effect(10, power(10, ((1, 0), 1), 300), (((10 ** 300 - 1) // 9, 0), 300))
        self.check_effect(10, power(10, ((1, 0), -1), 300), (((10 ** 300 - 1) // 9, -299), -300))
        self.check_effect(10, power(10, ((1, 0), 1), -300), ((-((10 ** 300 - 1) // 9), -300), -300))
        self.check_effect(2, power(2, ((1, 0), -1), 900), ((2 ** 900 - 1, -899), -900))
        self.check_effect(10, power(10, ((0, 0), 1), 1000), ((0, 0), 1000))
        self.check_effect(10, power(10, ((0, 0), -1), -1000), ((0, 0), 1000))
        self.check_effect(10, power(10, ((0, 0), 500), 2), ((0, 0), 1000))
        self.check_effect(10, power(10, ((1, 0), 1000), 1), ((1, 0), 1000))

    def test_offset_0(self):
        for exponent in (10 ** 29 + 7, -(10 ** 29) - 3, 3 * 10 ** 29, 10 ** 250, -(10 ** 290)):
            self.check_effect(10, power(10, ((7, -2), 0), exponent), (make_number(10, 7 * exponent, -2), 0))
            self.check_effect(36, power(36, ((-7, 5), 0), exponent), (make_number(36, -7 * exponent, 5), 0))
            self.check_effect(10, power(10, NOTHING, exponent), NOTHING)
        self.check_effect(10, power(10, ((5, 0), 0), 2), ((1, 1), 0))
        self.check_effect(10, power(10, NOTHING, 10 ** 399), NOTHING)
        self.check_effect(10, power(10, ((1, 0), 0), 10 ** 399), ((1, 399), 0))

    def test_offset_out_of_range(self):
        for offset, exponent in ((1, 1001), (-1, 1001), (1, -1001), (1000, 2), (1000, -2), (501, 2), (-7, 143),
                                 (1, 10 ** 30), (-1000, 10 ** 399)):
            self.check_limit(1000, power, 10, ((1, 0), offset), exponent)
            self.check_limit(1000, power, 10, ((0, 0), offset), exponent)
            # Also where the number has too many digits.
            self.check_limit(1000, power, 10, ((LONGEST, 0), offset), exponent)

    def test_number_out_of_range(self):
        self.check_limit(300, power, 10, ((1, 0), 1), 301)
        self.check_limit(300, power, 10, ((LONGEST, 0), 1), 2)
        self.check_limit(300, power, 10, ((LONGEST, 0), 0), 2)
        self.check_limit(300, power, 10, ((1, 0), 0), 10 ** 300 + 1)
        self.check_limit(1000, power, 10, ((LONGEST, 1000), -1000), -1)
        self.check_limit(1000, power, 10, ((1, 1000), -1), -1)
        self.check_limit(1000, power, 10, ((1, -1000), 1), -1)
        self.check_limit(1000, power, 10, ((1, -1000), 1), -5)
        self.check_limit(1000, power, 10, ((1, -999), -1), 3)
        self.check_limit(1000, power, 10, ((5, 1000), 0), 2)
        self.check_limit(300, power, 10, ((LONGEST, 1000), -1), -2)
        self.check_effect(10, power(10, ((1, 1000), 1), 3), ((111, 1000), 3))
        self.check_effect(10, power(10, ((1, -998), -1), 3), ((111, -1000), -3))

    def test_long_numbers(self):
        for base in BASES:
            for number in some_long_numbers(base, 31, 10):
                for offset, exponent in ((0, 2), (1, 3), (-2, 2), (5, -2), (-1, -3)):
                    effect = (number, offset)
                    total = sum(Fraction(base) ** (offset * copy) for copy in range(abs(exponent)))
                    total *= worth(base, number)
                    if exponent < 0:
                        total *= -Fraction(base) ** (offset * exponent)
                    numerator, place = form_of_worth(base, total)
                    if abs(numerator) > LONGEST:
                        self.check_limit(300, power, base, effect, exponent)
                    elif not -1000 <= place <= 1000:
                        self.check_limit(1000, power, base, effect, exponent)
                    else:
                        self.check_effect(base, power(base, effect, exponent), ((numerator, place), offset * exponent))

    def test_errors(self):
        for value in NO_EFFECTS:
            self.check_same_error(InvalidEffect, "value", value, power, 10, value, 2)
            self.check_same_error(InvalidEffect, "value", value, power, 10, value, True)
        for value in NO_WHOLES + [None]:
            self.check_same_error(InvalidLimit, "value", value, power, 10, ((3, 0), 1), value)
            self.check_same_error(InvalidLimit, "value", value, power, 10, ((LONGEST, 0), 1000), value)


class RootTest(PowersCase):
    def test_example(self):
        self.check_effect(10, root(10, ((333, 0), 3), 3), ((3, 0), 1))

    def test_roots_of_powers(self):
        for base in BASES:
            for effect in some_effects(base):
                for degree in list(range(1, 10)) + [12, 25, 40]:
                    self.check_effect(base, root(base, power(base, effect, degree), degree), effect)

    def test_powers_of_roots(self):
        for base in BASES:
            for numerator in range(-40, 41):
                for offset in (-4, -2, 0, 1, 2, 6):
                    effect = (make_number(base, numerator, -1), offset)
                    for degree in range(1, 8):
                        self.check_root(base, effect, degree)

    def check_root(self, base, effect, degree):
        """The root is there exactly if the offset is divisible and the quotient is a number of any size."""
        found = root(base, effect, degree)
        if effect[1] % degree != 0:
            self.assertIsNone(found)
            return
        offset = effect[1] // degree
        part = worth(base, effect[0]) / sum(Fraction(base) ** (offset * copy) for copy in range(degree))
        if is_worth_of_number(base, part):
            self.assertEqual((worth(base, found[0]), found[1]), (part, offset))
            self.check_effect(base, power(base, found, degree), effect)
        else:
            self.assertIsNone(found)

    def test_offset_0(self):
        self.check_effect(10, root(10, ((1, 0), 0), 2), ((5, -1), 0))
        self.check_effect(10, root(10, ((1, 0), 0), 8), ((125, -3), 0))
        self.check_effect(10, root(10, ((-1, 3), 0), 5), ((-2, 2), 0))
        self.assertIsNone(root(10, ((1, 0), 0), 3))
        self.assertIsNone(root(10, ((1, 0), 0), 6))
        self.check_effect(10, root(10, ((3, 0), 0), 6), ((5, -1), 0))
        self.check_effect(36, root(36, ((1, 0), 0), 54), ((24, -2), 0))
        self.assertIsNone(root(7, ((1, 0), 0), 2))
        self.check_effect(7, root(7, ((1, 0), 0), 49), ((1, -2), 0))
        self.check_effect(2, root(2, ((3, 0), 0), 2 ** 900), ((3, -900), 0))
        self.assertIsNone(root(2, ((1, 0), 0), 3 * 2 ** 900))
        for degree in (1, 2, 7, 10 ** 399):
            self.check_effect(10, root(10, NOTHING, degree), NOTHING)
        self.check_effect(10, root(10, ((7 ** 300, 5), 0), 7 ** 300), ((1, 5), 0))

    def test_other_offsets(self):
        self.check_effect(10, root(10, ((0, 0), 1000), 1000), ((0, 0), 1))
        self.check_effect(10, root(10, ((0, 0), -1000), 500), ((0, 0), -2))
        self.assertIsNone(root(10, ((0, 0), 1000), 3))
        self.assertIsNone(root(10, ((0, 0), 1000), 10 ** 399))
        self.assertIsNone(root(10, ((11, 0), 3), 2))
        self.check_effect(10, root(10, ((11, 0), 2), 2), ((1, 0), 1))
        self.assertIsNone(root(10, ((11, 0), 4), 2))
        self.check_effect(10, root(10, ((101, 0), 4), 2), ((1, 0), 2))
        self.check_effect(10, root(10, ((11, 0), -2), 2), ((1, 1), -1))
        self.assertIsNone(root(10, ((12, 0), -2), 2))
        self.check_effect(2, root(2, ((2 ** 900 - 1, 0), 900), 900), ((1, 0), 1))

    def test_first_root(self):
        for base in BASES:
            for effect in some_effects(base, (-1000, -5, 0, 1000)):
                self.check_effect(base, root(base, effect, 1), effect)
        self.check_effect(10, root(10, ((LONGEST, -1000), 1000), 1), ((LONGEST, -1000), 1000))

    def test_roots_out_of_range(self):
        self.check_limit(1000, root, 10, ((1, -1000), 0), 2)
        self.check_limit(300, root, 10, ((10 ** 299 + 1, 0), 0), 4)
        self.check_limit(300, root, 10, ((10 ** 299 + 1, -1000), 0), 4)
        self.check_limit(1000, root, 2, ((1, 0), 0), 2 ** 1001)
        self.check_limit(300, root, 10, ((1, 0), 0), 2 ** 1001)
        self.check_limit(1000, root, 10, ((11, 1000), -2), 2)
        self.check_effect(10, root(10, ((11, 999), -2), 2), ((1, 1000), -1))
        self.check_effect(10, root(10, ((1, -999), 0), 2), ((5, -1000), 0))
        self.assertIsNone(root(10, ((1, -1000), 0), 3))

    def test_callers_need_not_wait(self):
        began = time.perf_counter()
        for base in BASES:
            for number in some_long_numbers(base, 32, 5):
                for degree in (2, 1000, 10 ** 399 + 1):
                    for offset in (0, 1000, -1000):
                        try:
                            root(base, (number, offset), degree)
                        except LimitExceeded:
                            pass
                conjugators(base, (number, 1000), (number, 1000))
        self.assertLess(time.perf_counter() - began, 5)

    def test_errors(self):
        for value in NO_EFFECTS:
            self.check_same_error(InvalidEffect, "value", value, root, 10, value, 2)
            self.check_same_error(InvalidEffect, "value", value, root, 10, value, 0)
        for value in NO_WHOLES + [None, 0, -1, -(10 ** 399)]:
            self.check_same_error(InvalidLimit, "value", value, root, 10, ((3, 0), 1), value)
            self.check_same_error(InvalidLimit, "value", value, root, 10, NOTHING, value)


class CommutesTest(PowersCase):
    def test_against_both_orders(self):
        for base in BASES:
            effects = some_effects(base, (-2, -1, 0, 1, 3))
            for one in effects:
                for other in effects:
                    expected = composed(base, one, other) == composed(base, other, one)
                    self.assertIs(commutes(base, one, other), expected)

    def test_powers_commute(self):
        for base in BASES:
            for effect in some_effects(base):
                for exponent in (-3, 0, 2, 5):
                    self.assertIs(commutes(base, effect, power(base, effect, exponent)), True)

    def test_compositions_out_of_range(self):
        self.assertIs(commutes(10, ((LONGEST, 0), 0), ((1, -1000), 0)), True)
        self.assertIs(commutes(10, ((1, 1000), 1000), ((1, 1000), 1000)), True)
        self.assertIs(commutes(10, ((1, 1000), 1000), ((1, 999), 1000)), False)
        self.assertIs(commutes(10, ((1, 1000), 1000), ((0, 0), 1000)), False)
        self.assertIs(commutes(10, ((0, 0), 1000), ((0, 0), 1000)), True)
        self.assertIs(commutes(10, ((1, -1000), -1000), ((1, -1000), -1000)), True)
        self.assertIs(commutes(10, ((1, 1000), 1), ((11, 1000), 2)), True)
        self.assertIs(commutes(10, ((LONGEST, 1000), 0), ((LONGEST, -1000), 1)), False)

    def test_errors(self):
        for value in NO_EFFECTS:
            self.check_same_error(InvalidEffect, "value", value, commutes, 10, value, NOTHING)
            self.check_same_error(InvalidEffect, "value", value, commutes, 10, NOTHING, value)
            self.check_same_error(InvalidEffect, "value", value, commutes, 10, value, ((10, 0), 0))


class ConjugateTest(PowersCase):
    def test_against_composing(self):
        for base in BASES:
            effects = some_effects(base, (-2, 0, 1, 3))
            for one in effects:
                for by in effects:
                    expected = composed(base, by, one, inverse(base, by))
                    self.check_effect(base, conjugate(base, one, by), expected)

    def test_examples(self):
        self.check_effect(10, conjugate(10, ((3, 0), 0), ((5, 0), 2)), ((3, 2), 0))
        self.check_effect(10, conjugate(10, ((3, 0), 1), ((1, 0), 0)), ((-6, 0), 1))
        self.check_effect(10, conjugate(10, ((3, 0), 1), NOTHING), ((3, 0), 1))
        self.check_effect(10, conjugate(10, NOTHING, ((LONGEST, 1000), -1000)), NOTHING)

    def test_values_on_the_way_out_of_range(self):
        self.check_effect(10, conjugate(10, ((3, -1000), 0), ((7, 1000), 1000)), ((3, 0), 0))
        self.check_effect(10, conjugate(10, ((3, 0), 0), ((1, 1000), 1000)), ((3, 1000), 0))
        self.check_effect(10, conjugate(10, ((0, 0), 1000), ((0, 0), 1000)), ((0, 0), 1000))

    def test_numbers_out_of_range(self):
        self.check_limit(1000, conjugate, 10, ((3, 1), 0), ((7, 0), 1000))
        self.check_limit(1000, conjugate, 10, ((3, -1), 0), ((7, 0), -1000))
        self.check_limit(300, conjugate, 10, ((3, 1000), 1), ((7, -1000), 0))
        self.check_limit(300, conjugate, 10, ((1, 0), 1000), ((1, 0), 0))
        self.check_limit(300, conjugate, 10, ((0, 0), -1000), ((1, -1), 0))
        self.check_limit(1000, conjugate, 10, ((1, -1000), 1), ((0, 0), -1))

    def test_errors(self):
        for value in NO_EFFECTS:
            self.check_same_error(InvalidEffect, "value", value, conjugate, 10, value, NOTHING)
            self.check_same_error(InvalidEffect, "value", value, conjugate, 10, NOTHING, value)
            self.check_same_error(InvalidEffect, "value", value, conjugate, 10, value, ((10, 0), 0))


class ConjugatorsTest(PowersCase):
    def plain(self, base, one, other):
        """The offsets, each by whether the number that it needs is a number of any size."""
        if one[1] != other[1]:
            return []
        if one == other == NOTHING:
            return [0]
        shifts = range(-1000, 1001) if one[1] == 0 else range(abs(one[1]))
        found = []
        for shift in shifts:
            rest = worth(base, other[0]) - worth(base, one[0]) * Fraction(base) ** shift
            if one[1] == 0:
                wanted = rest == 0
            else:
                wanted = is_worth_of_number(base, rest / (1 - Fraction(base) ** one[1]))
            if wanted:
                found.append(shift)
        return found

    def test_example(self):
        self.assertEqual(conjugators(10, ((1, 0), 2), ((1, 1), 2)), [1])

    def test_against_a_search(self):
        for base in BASES:
            effects = some_effects(base, (-4, -1, 1, 3, 5))
            for one in effects:
                for other in effects:
                    found = conjugators(base, one, other)
                    self.assertIs(type(found), list)
                    self.assertEqual(found, self.plain(base, one, other), (base, one, other))

    def test_offset_0_against_a_search(self):
        effects = some_effects(10, (0,))
        for one in effects:
            for other in effects:
                self.assertEqual(conjugators(10, one, other), self.plain(10, one, other))

    def test_several_offsets(self):
        self.assertEqual(conjugators(10, ((1, 0), 1), ((5, 0), 1)), [])
        self.assertEqual(conjugators(2, ((1, 0), 1), ((5, 0), 1)), [0])
        self.assertEqual(conjugators(10, ((0, 0), 4), ((0, 0), 4)), [0, 1, 2, 3])
        self.assertEqual(conjugators(10, ((0, 0), -4), ((9999, 7), -4)), [0, 1, 2, 3])
        self.assertEqual(conjugators(10, ((11, 0), -2), ((11, 0), -2)), [0, 1])
        self.assertEqual(conjugators(10, ((101, 0), 4), ((101, 0), 4)), [0, 2])
        self.assertEqual(conjugators(10, ((101, 0), 4), ((101, -7), 4)), [1, 3])
        self.assertEqual(conjugators(10, ((0, 0), 1000), ((0, 0), 1000)), list(range(1000)))
        self.assertEqual(conjugators(10, ((1, 1000), 1000), ((1, 999), 1000)), [999])

    def test_offset_0(self):
        self.assertEqual(conjugators(10, NOTHING, NOTHING), [0])
        self.assertEqual(conjugators(10, ((7, 3), 0), ((7, 3), 0)), [0])
        self.assertEqual(conjugators(10, ((7, 3), 0), ((7, 5), 0)), [2])
        self.assertEqual(conjugators(10, ((7, 3), 0), ((-7, 3), 0)), [])
        self.assertEqual(conjugators(10, ((7, 3), 0), ((0, 0), 0)), [])
        self.assertEqual(conjugators(10, ((0, 0), 0), ((7, 3), 0)), [])
        self.assertEqual(conjugators(10, ((7, -500), 0), ((7, 500), 0)), [1000])
        self.assertEqual(conjugators(10, ((7, 500), 0), ((7, -500), 0)), [-1000])
        self.assertEqual(conjugators(10, ((7, -500), 0), ((7, 501), 0)), [])
        self.assertEqual(conjugators(10, ((7, 1000), 0), ((7, -1000), 0)), [])

    def test_offsets_differ(self):
        for one, other in ((0, 1), (1, -1), (1000, -1000), (3, 2)):
            self.assertEqual(conjugators(10, ((0, 0), one), ((0, 0), other)), [])
            self.assertEqual(conjugators(10, ((9, 0), one), ((9, 0), other)), [])

    def test_conjugates_are_found(self):
        for base in (2, 10, 36):
            for one in some_effects(base, (-3, 2, 5)):
                for by in some_effects(base, (0, 1, 4)):
                    if by[1] < abs(one[1]):
                        self.assertIn(by[1], conjugators(base, one, conjugate(base, one, by)))

    def test_results_are_new(self):
        for _ in range(3):
            found = conjugators(10, ((0, 0), 3), ((0, 0), 3))
            self.assertEqual(found, [0, 1, 2])
            found.clear()

    def test_errors(self):
        for value in NO_EFFECTS:
            self.check_same_error(InvalidEffect, "value", value, conjugators, 10, value, NOTHING)
            self.check_same_error(InvalidEffect, "value", value, conjugators, 10, ((0, 0), 7), value)
            self.check_same_error(InvalidEffect, "value", value, conjugators, 10, value, ((10, 0), 0))


if __name__ == "__main__":
    unittest.main()
