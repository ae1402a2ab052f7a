"""Texts: points [12] and [3] (j), and the section abacushead/texts.py."""

import random
import re
import unittest

from abacushead.errors import InvalidText
from abacushead.numbers import make_number
from abacushead.rows import Row
from abacushead.sequences import is_sequence
from abacushead.shortest import shortest
from abacushead.texts import (format_effect, format_number, format_sequence, format_state, parse_effect, parse_number,
                              parse_sequence, parse_state)
from cases import ErrorsCase
from samples import LONGEST, OTHER_KINDS, runs_of, some_long_numbers, some_texts

BASES = (2, 3, 10, 36)
INTEGER = "(?:0|-?[1-9][0-9]*)"
NUMBER = re.compile(f"({INTEGER})(?:e({INTEGER}))?")
PAIR = {"@": re.compile(f"(.*)@({INTEGER})"), ":": re.compile(f"(.*):({INTEGER})")}
RUN = re.compile("([RLAS])([1-9][0-9]*)?")

NUMBERS = {
    (0, 0): "0", (7, 0): "7", (-7, 0): "-7", (5, 2): "5e2", (-5, -1): "-5e-1", (1, 1000): "1e1000",
    (-1, -1000): "-1e-1000", (12345678901234567, -13): "12345678901234567e-13", (LONGEST, 0): "9" * 300,
    (-LONGEST, 1000): "-" + "9" * 300 + "e1000", (10 ** 299 + 1, -7): "1" + "0" * 298 + "1e-7",
}

SEQUENCES = {
    "-": [], "R": [("R", 1)], "S2": [("S", 2)], "R2 A": [("R", 2), ("A", 1)], "A L A L A": runs_of("ALALA"),
    "R10 A99 L100 S1000": [("R", 10), ("A", 99), ("L", 100), ("S", 1000)],
    "A" + "9" * 400: [("A", 10 ** 400 - 1)], "S1" + "0" * 3999 + " R": [("S", 10 ** 3999), ("R", 1)],
}

NO_NUMBER_TEXTS = [
    "", " ", "-", "+7", "+", "07", "00", "-0", "-07", "--7", "7-", "7.0", "7,0", "7_0", "1_000", "0x7", "7e", "e",
    "e7", "7e0", "7e-0", "7e+1", "7e01", "7e-01", "7e1.0", "7E1", "7e1e1", "7ee1", "7 e1", "7e 1", " 7", "7 ", "7\t",
    "\t7", "7\n", "\n7", "0e1", "0e0", "0e-1", "-0e1", "10", "100", "-10", "10e1", "-120e-3", "7e1001", "7e-1001",
    "7e10000", "7e" + "9" * 400, "1" + "0" * 299 + "1", "-1" + "0" * 299 + "1", "9" * 301, "9" * 5000,
    "-" + "9" * 5000, "9" * 19999, "7e" + "9" * 5000, "0" * 300, "(7, 0)", "seven", "7a", "A", "None", "True", "7@0",
    "7:0", "\u0667", "\u00b2", "7e\u0661", "\uff17", "1e5e", "- 7", "7e--1", "7e1-", "7e-", "-e1", "\u22127", "7\x00",
    "7 0", "7;0",
]

NO_SEQUENCE_TEXTS = [
    "", " ", "--", "- ", " -", "- R", "R -", "R1", "R0", "R-1", "R+2", "R02", "R 2", "2R", "R2A", "RA", "R R", "R R2",
    "R2 R3", "R  A", " R", "R ", "R\tA", "R\nA", "R\n", "r", "a2", "R2 a", "X", "R2 X", "R2 A B", "R2,A", "R2;A",
    "R2.0", "R2e1", "R_2", "R1_0", "2", "0", "-2", "R A1", "A R1 S", "R2 A0", "R2 A-1", "R2 A -", "R" * 5, "A A",
    "A 1", "A" + "0" * 9, "[]", "[('R', 2)]", "R\u0662", "R\u00b2", "\u0420", "R2  ", "R2\x00", "Rx", "R-",
    "A" + "x" * 5000, "R " * 9000,
]


def number_of(base, text):
    """The number of a text by a plain pattern, None if it is not one."""
    match = NUMBER.fullmatch(text)
    if match is None or len(match[1]) > 301 or match[2] is not None and len(match[2]) > 5:
        return None
    numerator, exponent = int(match[1]), int(match[2] or 0)
    if match[2] == "0" or not -1000 <= exponent <= 1000 or abs(numerator) > LONGEST:
        return None
    if numerator == 0:
        return None if exponent else (0, 0)
    return (numerator, exponent) if numerator % base else None


def pair_of(base, text, mark):
    match = PAIR[mark].fullmatch(text)
    if match is None or len(match[2]) > 5 or not -1000 <= int(match[2]) <= 1000:
        return None
    number = number_of(base, match[1])
    return None if number is None else (number, int(match[2]))


def sequence_of(text):
    if text == "-":
        return []
    runs = []
    for word in text.split(" "):
        match = RUN.fullmatch(word)
        if match is None or match[2] == "1" or runs and runs[-1][0] == match[1]:
            return None
        runs.append((match[1], int(match[2] or 1)))
    return runs


def altered(text, chance):
    """A text with a character put in, left out or replaced, or words exchanged."""
    at = chance.randint(0, len(text))
    letter = chance.choice("0123456789eE-+@: \tRLASrx.,_")
    how = chance.randint(0, 5)
    if how == 0:
        return text[:at] + letter + text[at:]
    if how == 1:
        return text[:at] + text[at + 1:]
    if how == 2:
        return text[:at] + letter + text[at + 1:]
    if how == 3:
        return text[at:] + text[:at]
    if how == 4:
        return text.swapcase()
    words = text.split(" ")
    chance.shuffle(words)
    return chance.choice([" ", "  "]).join(words)


class TextsCase(ErrorsCase):
    def check_parsed(self, expected, value, parse, *base):
        """The value of a text, or InvalidText if None is expected."""
        if expected is None:
            self.check_same_error(InvalidText, "value", value, parse, *base, value)
        else:
            found = parse(*base, value)
            self.assertEqual(found, expected)
            self.assertEqual(repr(found), repr(expected))

    def check_refused(self, values, parse, *base):
        for value in values:
            with self.subTest(parse=parse.__name__, value=value):
                self.check_same_error(InvalidText, "value", value, parse, *base, value)


class FormatTest(TextsCase):
    def test_numbers(self):
        for number, text in NUMBERS.items():
            self.assertEqual(format_number(number), text)

    def test_states_and_effects(self):
        for number, text in NUMBERS.items():
            for place in (0, 1, -1, 999, 1000, -1000):
                self.assertEqual(format_state((number, place)), f"{text}@{place}")
                self.assertEqual(format_effect((number, place)), f"{text}:{place}")
        self.assertEqual(format_state(((9, 0), 0)), "9@0")
        self.assertEqual(format_effect(((-5, -1), -3)), "-5e-1:-3")

    def test_sequences(self):
        for text, sequence in SEQUENCES.items():
            self.assertEqual(format_sequence(sequence), text)
        self.assertEqual(format_sequence([("R", 1), ("A", 1)] * 2500), " ".join(["R A"] * 2500))

    def test_results_are_texts(self):
        self.assertIs(type(format_sequence([])), str)
        self.assertIs(type(format_number((0, 0))), str)

    def test_arguments_do_not_change(self):
        sequence = [("R", 2), ("A", 1)]
        format_sequence(sequence)
        self.assertEqual(sequence, [("R", 2), ("A", 1)])


class ParseTest(TextsCase):
    def test_example(self):
        self.assertEqual(format_sequence([("R", 2), ("A", 1)]), "R2 A")
        self.assertEqual(parse_state(10, "-5e-1@3"), ((-5, -1), 3))

    def test_numbers(self):
        for number, text in NUMBERS.items():
            self.check_parsed(number, text, parse_number, 10)
            for place in (0, 1, -1, 999, 1000, -1000):
                self.check_parsed((number, place), f"{text}@{place}", parse_state, 10)
                self.check_parsed((number, place), f"{text}:{place}", parse_effect, 10)

    def test_sequences(self):
        for text, sequence in SEQUENCES.items():
            self.check_parsed(sequence, text, parse_sequence)
        self.check_parsed([("R", 1), ("A", 1)] * 2500, " ".join(["R A"] * 2500), parse_sequence)

    def test_parsed_back(self):
        for base in BASES:
            short = [(numerator, exponent) for numerator in range(-60, 61) for exponent in (-2, 0, 3)]
            for number in [make_number(base, *pair) for pair in short] + some_long_numbers(base, 91, 20):
                self.check_parsed(number, format_number(number), parse_number, base)
                for place in (-1000, -1, 0, 7, 1000):
                    self.check_parsed((number, place), format_state((number, place)), parse_state, base)
                    self.check_parsed((number, place), format_effect((number, place)), parse_effect, base)
        for text in some_texts(92, 200, 12):
            self.check_parsed(runs_of(text), format_sequence(runs_of(text)), parse_sequence)

    def test_longest_results(self):
        for base in (2, 10, 36):
            row = Row(base, last=-1000)
            way = shortest(row, ((0, 0), -1000), ((LONGEST, 0), -1000))
            self.check_parsed(way, format_sequence(way), parse_sequence)
            way = shortest(row, ((0, 0), -1000), ((7, 1000), -1000))
            self.check_parsed(way, format_sequence(way), parse_sequence)

    def test_multiples_of_the_base(self):
        for base in BASES:
            for numerator in range(-80, 81):
                expected = (numerator, 0) if numerator % base or numerator == 0 else None
                self.check_parsed(expected, str(numerator), parse_number, base)
                expected = (numerator, 2) if numerator % base else None
                self.check_parsed(expected, f"{numerator}e2", parse_number, base)
        self.check_parsed((5, -3), "5e-3", parse_number, 3)
        self.check_parsed((10, 0), "10", parse_number, 3)
        self.check_parsed((10 ** 299, 0), "1" + "0" * 299, parse_number, 36)
        self.check_parsed(None, "1" + "0" * 300, parse_number, 36)

    def test_exponents_and_positions_out_of_range(self):
        for place in (-1001, 1001, 10 ** 30, -(10 ** 30)):
            self.check_refused([f"7e{place}"], parse_number, 10)
            self.check_refused([f"7@{place}", f"7e{place}@0"], parse_state, 10)
            self.check_refused([f"7:{place}", f"7e{place}:0"], parse_effect, 10)

    def test_texts_of_nothing(self):
        self.check_refused(NO_NUMBER_TEXTS, parse_number, 10)
        self.check_refused([f"{text}@0" for text in NO_NUMBER_TEXTS], parse_state, 10)
        self.check_refused([f"{text}:0" for text in NO_NUMBER_TEXTS], parse_effect, 10)
        self.check_refused(NO_SEQUENCE_TEXTS, parse_sequence)

    def test_positions(self):
        places = ["", " ", "-", "+0", "-0", "00", "01", "-01", "+1", "1.0", "1e1", "1e0", " 1", "1 ", "1\t", "1\n",
                  "0@0", "0:0", "@", ":", "1_0", "x", "1001", "-1001", "9" * 5000, "\u0661"]
        for mark, parse in (("@", parse_state), (":", parse_effect)):
            self.check_refused([f"7{mark}{place}" for place in places], parse, 10)
            self.check_refused(["", "7", "0", mark, f"7 {mark} 0", f"7{mark}{mark}0", f"{mark}0", f"7{mark}",
                                f"0{mark}7{mark}0", "7@0:0", "7:0@0", "7=0", "7 0", f"7{mark} 0", f"7 {mark}0"],
                               parse, 10)
        self.check_refused(["7:0", "-5e-1:3"], parse_state, 10)
        self.check_refused(["7@0", "-5e-1@3"], parse_effect, 10)

    def test_other_kinds(self):
        values = [value for value in OTHER_KINDS if value != "x"] + [b"7", ["7"], ("7",), (7, 0), [("R", 1)], []]
        for parse, base in ((parse_number, [10]), (parse_state, [10]), (parse_effect, [10]), (parse_sequence, [])):
            self.check_refused(values, parse, *base)

    def test_very_long_texts(self):
        for text in ("9" * 20000, "-" * 20000, " " * 20000, "R " * 10000, "e" * 20000, "@" * 20000, ":" * 20000,
                     "1e" * 10000, "A" * 20000, "0" * 20000):
            self.check_refused([text], parse_number, 10)
            self.check_refused([text], parse_state, 10)
            self.check_refused([text], parse_effect, 10)
            self.check_refused([text], parse_sequence)
        # Longer integers than Python itself reads and writes.
        way = parse_sequence("A" + "7" * 19999)
        self.assertEqual(way, [("A", (10 ** 19999 - 1) // 9 * 7)])
        self.assertEqual(format_sequence(way), "A" + "7" * 19999)
        way = parse_sequence("A1" + "0" * 5000 + " S5" + "0" * 7000 + "3")
        self.assertEqual(way, [("A", 10 ** 5000), ("S", 5 * 10 ** 7001 + 3)])
        self.assertEqual(format_sequence(way), "A1" + "0" * 5000 + " S5" + "0" * 7000 + "3")


class AlteredTest(TextsCase):
    """A value is returned exactly if the text is the text of that value."""

    def test_numbers(self):
        chance = random.Random(93)
        texts = [text for text in NUMBERS.values() if len(text) < 30] + ["12e3", "-305e-20", "100e1"]
        for base in BASES:
            for text in texts:
                for _ in range(150):
                    other = altered(text, chance)
                    self.check_parsed(number_of(base, other), other, parse_number, base)
                    other = altered(other, chance)
                    self.check_parsed(number_of(base, other), other, parse_number, base)

    def test_states_and_effects(self):
        chance = random.Random(94)
        for mark, parse in (("@", parse_state), (":", parse_effect)):
            for text in ("0", "7", "-5e-1", "12e1000"):
                for place in ("0", "-1", "17", "1000", "-1000"):
                    for _ in range(150):
                        other = altered(f"{text}{mark}{place}", chance)
                        self.check_parsed(pair_of(10, other, mark), other, parse, 10)

    def test_sequences(self):
        chance = random.Random(95)
        for sequence in [runs_of(text) for text in some_texts(96, 60, 9)] + list(SEQUENCES.values())[:6]:
            text = format_sequence(sequence)
            for _ in range(60):
                other = altered(text, chance)
                expected = sequence_of(other)
                self.check_parsed(expected, other, parse_sequence)
                if expected is not None:
                    self.assertTrue(is_sequence(expected))

    def test_short_texts(self):
        letters = "019e-@:RA "
        texts = [""]
        for _ in range(4):
            texts += [text + letter for text in texts if len(text) == len(texts[-1]) for letter in letters]
        texts = sorted(set(texts))
        self.assertGreater(len(texts), 10000)
        for text in texts:
            self.check_parsed(number_of(10, text), text, parse_number, 10)
            self.check_parsed(pair_of(10, text, "@"), text, parse_state, 10)
            self.check_parsed(pair_of(10, text, ":"), text, parse_effect, 10)
            self.check_parsed(sequence_of(text), text, parse_sequence)


if __name__ == "__main__":
    unittest.main()
