"""The console: point [12] and the section abacushead/console.py."""

import unittest

from abacushead.choices import first_operations
from abacushead.console import Console
from abacushead.effects import effect_of
from abacushead.errors import (InvalidCommand, InvalidState, InvalidText, LimitExceeded, OutOfRow, UnknownName)
from abacushead.rows import Row
from abacushead.running import cost_of, run
from abacushead.shortest import distance, shortest
from abacushead.texts import format_effect, format_sequence, format_state, parse_sequence, parse_state
from cases import ErrorsCase
from samples import LONGEST, OTHER_KINDS, SMALL_ROWS, runs_of, some_pairs, some_texts

NO_NAMES = ["X", "Ann", "a" * 9, "a1", "1", "-", "a-b", "a_b", "a\t", "\ta", "\t", "x,", "R2", "9@0", "\u00e9"]
NO_STATE_TEXTS = ["9", "9@", "@0", "9@0@0", "09@0", "+9@0", "10@0", "9@1001", "9e0@0", "9e1001@0", "9:0", "9@0\t",
                  "9\t@0", "x", "-", "R2", "9" * 301 + "@0", "9@-0"]
NO_SEQUENCE_TEXTS = ["R1", "r", "RA", "R R", "R2 R", "R0", "- -", "R -", "R2 x", "R\tA", "2", "A 1", "-2", "A-1", "\t"]

FORMS = {"set": (2, 9999), "drop": (1, 1), "names": (0, 0), "effect": (1, 1), "same": (2, 2), "do": (2, 2),
         "distance": (2, 2), "way": (2, 2), "first": (2, 2)}


class ConsoleCase(ErrorsCase):
    def facts(self, console):
        names = console.run("names")
        words = [] if names == "-" else names.split(" ")
        return (names, len(console), [console.run(f"do {name} 0@0") for name in words])

    def check_unchanged(self, console, error, attribute, expected, command):
        """The command raises the error and changes nothing."""
        before = self.facts(console)
        with self.subTest(command=command):
            self.check_error(error, attribute, expected, console.run, command)
        self.assertEqual(self.facts(console), before)

    def filled(self, *commands, row=None):
        console = Console(Row(10) if row is None else row)
        for command in commands:
            console.run(command)
        return console


class CommandsTest(ConsoleCase):
    def test_example(self):
        console = Console(Row(10))
        self.assertEqual(console.run("set x S R A L"), "4")
        self.assertEqual((console.run("effect x"), console.run("distance 0@0 9@0")), ("9:0", "4"))

    def test_new_console(self):
        console = Console(Row(10))
        self.assertEqual((len(console), console.run("names")), (0, "-"))

    def test_set(self):
        console = Console(Row(10, move=2, add=3))
        self.assertEqual(console.run("set x R2 A5 L S"), str(4 + 15 + 2 + 3))
        self.assertEqual(console.run("set nothing -"), "0")
        self.assertEqual(console.run("set long A" + "9" * 400), str(3 * (10 ** 400 - 1)))
        self.assertEqual(len(console), 3)
        self.assertEqual(console.run("effect nothing"), "0:0")
        # Also what leaves the row, or has an effect out of range, is a sequence.
        self.assertEqual(console.run("set far R5000"), "10000")
        self.assertEqual(console.run("set x A"), "3")
        self.assertEqual(console.run("effect x"), "1:0")
        self.assertEqual(len(console), 4)

    def test_cost_of_long_sequences(self):
        console = Console(Row(10, move=7, add=4))
        for text in some_texts(101, 60, 12):
            sequence = runs_of(text)
            cost = cost_of(Row(10, move=7, add=4), sequence)
            self.assertEqual(console.run("set x " + format_sequence(sequence)), str(cost))
        self.assertEqual(console.run("set x " + " ".join(["R A"] * 2500)), str(2500 * 11))
        self.assertEqual(console.run("set x A" + "1" * 6000), "4" * 6000)

    def test_drop_and_names(self):
        console = self.filled("set b A", "set abc R", "set a L", "set zz S")
        self.assertEqual(console.run("names"), "a abc b zz")
        self.assertEqual(console.run("drop abc"), "ok")
        self.assertEqual((console.run("names"), len(console)), ("a b zz", 3))
        self.check_unchanged(console, UnknownName, "name", "abc", "drop abc")
        for name in ("b", "zz", "a"):
            self.assertEqual(console.run(f"drop {name}"), "ok")
        self.assertEqual((console.run("names"), len(console)), ("-", 0))

    def test_names_in_any_order_of_setting(self):
        console = self.filled("set c A", "set a A", "set b A", "set a R", "set ab R", "set abcdefgh R")
        self.assertEqual(console.run("names"), "a ab abcdefgh b c")

    def test_effect(self):
        for text in some_texts(102, 60, 9):
            sequence = runs_of(text)
            console = self.filled("set x " + format_sequence(sequence))
            self.assertEqual(console.run("effect x"), format_effect(effect_of(10, sequence)))

    def test_same(self):
        console = self.filled("set x A10", "set y R A L", "set z R A", "set n -", "set back A R L S")
        self.assertEqual([console.run(f"same x {name}") for name in ("x", "y", "z", "n", "back")],
                         ["yes", "yes", "no", "no", "no"])
        self.assertEqual(console.run("same back n"), "yes")
        self.assertEqual(console.run("same z y"), "no")

    def test_do(self):
        row = Row(10, first=-2, last=5)
        console = self.filled("set x R2 A5 L S", "set n -", row=row)
        self.assertEqual(console.run("do x 0@0"), "49e1@1")
        self.assertEqual(console.run("do x -5e-1@-1"), "485e-1@0")
        self.assertEqual(console.run("do n -5e-1@5"), "-5e-1@5")
        for text in some_texts(103, 40, 6):
            console.run("set x " + format_sequence(runs_of(text)))
            for start in ("0@0", "-12e1@2", "7e-2@1"):
                try:
                    expected = format_state(run(row, parse_state(10, start), runs_of(text)))
                except OutOfRow as error:
                    self.check_unchanged_do(console, error.index, f"do x {start}")
                else:
                    self.assertEqual(console.run(f"do x {start}"), expected)

    def check_unchanged_do(self, console, index, command):
        self.check_error(OutOfRow, "index", index, console.run, command)
        self.assertEqual(console.run("names"), "n x")

    def test_distance_way_and_first(self):
        for row in SMALL_ROWS:
            console = Console(row)
            for start, goal in some_pairs(row, 104, 6):
                texts = f"{format_state(start)} {format_state(goal)}"
                self.assertEqual(console.run(f"distance {texts}"), str(distance(row, start, goal)))
                self.assertEqual(console.run(f"way {texts}"), format_sequence(shortest(row, start, goal)))
                self.assertEqual(console.run(f"first {texts}"), first_operations(row, start, goal) or "-")
        console = Console(Row(10))
        self.assertEqual(console.run("first 0@0 9@0"), "RS")
        self.assertEqual(console.run("first 9@0 9@0"), "-")
        self.assertEqual(console.run("way 9@0 9@0"), "-")
        self.assertEqual(console.run("distance 9@0 9@0"), "0")
        self.assertEqual(console.run("way 0@0 9@1"), "S R A")

    def test_the_longest_answers(self):
        console = Console(Row(36, last=-1000, add=1000000))
        long = "7e1000@-1000"
        self.assertEqual(console.run(f"distance 0@-1000 {long}"), str(10 ** 6 * 7 * 36 ** 2000))
        self.assertEqual(console.run(f"way 0@-1000 {long}"), "A" + str(7 * 36 ** 2000))
        self.assertEqual(console.run("set x " + console.run(f"way 0@-1000 {long}")), str(10 ** 6 * 7 * 36 ** 2000))
        self.assertEqual(console.run("do x 0@-1000"), long)

    def test_answers_are_texts(self):
        console = Console(Row(10))
        for command in ("set x A", "set y A2", "names", "effect x", "same x y", "do x 0@0", "distance 0@0 9@0",
                        "way 0@0 9@0", "first 0@0 9@0", "drop x"):
            self.assertIs(type(console.run(command)), str)

    def test_consoles_are_independent(self):
        one, other = Console(Row(10)), Console(Row(10))
        one.run("set x A")
        self.assertEqual((len(one), len(other)), (1, 0))
        other.run("set x R")
        other.run("set y R")
        self.assertEqual((one.run("effect x"), one.run("names"), other.run("effect x")), ("1:0", "x", "0:1"))
        self.assertFalse(one == other)
        self.assertTrue(one == one)

    def test_rows(self):
        self.assertEqual(Console(Row(2)).run("distance 0@0 3@0"), "3")
        self.assertEqual(Console(Row(10, last=0)).run("distance 0@0 9@0"), "9")


class EightNamesTest(ConsoleCase):
    def test_ninth_name(self):
        console = self.filled(*[f"set {name} A" for name in "abcdefgh"])
        self.assertEqual(len(console), 8)
        self.check_unchanged(console, LimitExceeded, "limit", 8, "set i A")
        self.check_unchanged(console, LimitExceeded, "limit", 8, "set ab -")
        self.assertEqual(console.run("set h R2"), "2")
        self.assertEqual((len(console), console.run("effect h")), (8, "0:2"))
        self.assertEqual(console.run("drop a"), "ok")
        self.assertEqual(console.run("set i A"), "1")
        self.assertEqual(console.run("names"), "b c d e f g h i")
        self.check_unchanged(console, LimitExceeded, "limit", 8, "set a A")

    def test_after_the_other_errors(self):
        console = self.filled(*[f"set {name} A" for name in "abcdefgh"])
        self.check_unchanged(console, InvalidText, "value", "A1", "set i A1")
        self.check_unchanged(console, InvalidCommand, "word", "set", "set I A")
        self.check_unchanged(console, InvalidCommand, "word", "set", "set i")
        self.check_unchanged(console, InvalidCommand, "word", None, "set i A ")


class ErrorsTest(ConsoleCase):
    def test_no_commands(self):
        console = self.filled("set x A", "set y R")
        for command in ["", " ", "  ", " names", "names ", "names\n", "\nnames", "set x A\nnames", "set  x A",
                        "set x  A", "set x A ", "do x  0@0", "\n", "distance 0@0 9@0\n", "names \n", "set x A \n",
                        " " * 5000, "X\n", "x  "]:
            self.check_unchanged(console, InvalidCommand, "word", None, command)
        for command in [value for value in OTHER_KINDS if value != "x"] + [["names"], ("names",), b"names"]:
            self.check_unchanged(console, InvalidCommand, "word", None, command)

    def test_unknown_words(self):
        console = self.filled("set x A")
        for word in ("x", "Names", "NAMES", "SET", "run", "len", "help", "-", "names\t", "\tnames", "set\tx\tA", "\t",
                     "name", "paths", "1", "0@0", "R2", "setx", "sett", "\\n"):
            for rest in ("", " x", " x A", " x y z"):
                self.check_unchanged(console, InvalidCommand, "word", word, word + rest)

    def test_numbers_of_words(self):
        console = self.filled("set x A", "set y R")
        for word, (least, most) in FORMS.items():
            for count in range(6):
                if not least <= count <= most:
                    for text in ("x", "0@0", "A", "X"):
                        self.check_unchanged(console, InvalidCommand, "word", word, " ".join([word] + [text] * count))

    def test_wrong_names(self):
        console = self.filled("set x A", "set y R")
        for name in NO_NAMES:
            for command in (f"set {name} A", f"set {name} A1", f"drop {name}", f"effect {name}", f"same {name} x",
                            f"same x {name}", f"same unknown {name}", f"do {name} 0@0", f"do {name} 9"):
                self.check_unchanged(console, InvalidCommand, "word", command.split(" ")[0], command)

    def test_texts_of_sequences(self):
        console = self.filled("set x A")
        for text in NO_SEQUENCE_TEXTS:
            self.check_unchanged(console, InvalidText, "value", text, f"set x {text}")
            self.check_unchanged(console, InvalidText, "value", text, f"set y {text}")
        self.check_unchanged(console, InvalidText, "value", "A L A0 x y", "set y A L A0 x y")
        self.check_unchanged(console, InvalidText, "value", "A " * 2000 + "x", "set y " + "A " * 2000 + "x")

    def test_texts_of_states(self):
        console = self.filled("set x A")
        for text in NO_STATE_TEXTS:
            self.check_unchanged(console, InvalidText, "value", text, f"do x {text}")
            self.check_unchanged(console, InvalidText, "value", text, f"do unknown {text}")
            for word in ("distance", "way", "first"):
                self.check_unchanged(console, InvalidText, "value", text, f"{word} {text} 9@0")
                self.check_unchanged(console, InvalidText, "value", text, f"{word} 9@0 {text}")
                self.check_unchanged(console, InvalidText, "value", text, f"{word} {text} 8@x")
                self.check_unchanged(console, InvalidText, "value", "8@x", f"{word} 8@x {text}")

    def test_unknown_names(self):
        console = self.filled("set x A", "set far R1001")
        for command, name in (("drop y", "y"), ("effect y", "y"), ("same y z", "y"), ("same x z", "z"),
                              ("same y x", "y"), ("do y 0@0", "y"), ("do y 9@1000", "y"), ("same far y", "y"),
                              ("same y far", "y")):
            self.check_unchanged_names(console, name, command)
        for command in ("drop x", "effect x"):
            self.check_unchanged_names(Console(Row(10)), "x", command)

    def check_unchanged_names(self, console, name, command):
        before = (console.run("names"), len(console))
        self.check_error(UnknownName, "name", name, console.run, command)
        self.assertEqual((console.run("names"), len(console)), before)

    def test_errors_of_the_functions(self):
        console = self.filled("set x A", "set up R5", "set far R1001", "set long A" + "7" * 301, "set back R2 L9")
        row_console = self.filled("set up R5", "set x A", "set back R2 L9", row=Row(10, first=-3, last=4))
        for command, error, attribute, expected in (
                ("effect far", LimitExceeded, "limit", 1000), ("effect long", LimitExceeded, "limit", 300),
                ("same x far", LimitExceeded, "limit", 1000), ("same long x", LimitExceeded, "limit", 300),
                ("same long far", LimitExceeded, "limit", 300), ("same far long", LimitExceeded, "limit", 1000),
                ("same far far", LimitExceeded, "limit", 1000), ("same long long", LimitExceeded, "limit", 300),
                ("do far 0@0", OutOfRow, "index", 0), ("do long 0@0", LimitExceeded, "limit", 300),
                ("do x 9e1000@1000", LimitExceeded, "limit", 1000), ("do up 0@996", OutOfRow, "index", 0)):
            self.check_error(error, attribute, expected, console.run, command)
            self.assertEqual((console.run("names"), len(console)), ("back far long up x", 5))
        for command, error, attribute, expected in (
                ("do up 0@0", OutOfRow, "index", 0), ("do back 0@0", OutOfRow, "index", 1),
                ("do x 0@5", InvalidState, "value", ((0, 0), 5)), ("do x 5e-4@0", InvalidState, "value", ((5, -4), 0)),
                ("distance 0@5 1@-4", InvalidState, "value", ((0, 0), 5)),
                ("distance 0@4 1@-4", InvalidState, "value", ((1, 0), -4)),
                ("way 5e-4@0 0@0", InvalidState, "value", ((5, -4), 0)),
                ("first 0@0 5e-4@0", InvalidState, "value", ((5, -4), 0))):
            self.check_error(error, attribute, expected, row_console.run, command)
            self.assertEqual((row_console.run("names"), len(row_console)), ("back up x", 3))

    def test_tabs(self):
        console = self.filled("set x A")
        self.check_unchanged(console, InvalidCommand, "word", "names\t", "names\t")
        self.check_unchanged(console, InvalidCommand, "word", "\t", "\t names")
        self.check_unchanged(console, InvalidCommand, "word", "set", "set \t A")
        self.check_unchanged(console, InvalidText, "value", "\t", "set y \t")
        self.check_unchanged(console, InvalidText, "value", "A\tR", "set y A\tR")
        self.check_unchanged(console, InvalidText, "value", "0@0\t", "do x 0@0\t")
        self.check_unchanged(console, InvalidCommand, "word", "names", "names \t")

    def test_order_of_errors(self):
        console = self.filled("set x A")
        # The form of the command, its word, its texts, its names, and then the functions.
        self.check_unchanged(console, InvalidCommand, "word", None, "do unknown  9")
        self.check_unchanged(console, InvalidCommand, "word", "do", "do Unknown 9")
        self.check_unchanged(console, InvalidCommand, "word", "do", "do unknown 9 9")
        self.check_unchanged(console, InvalidText, "value", "9", "do unknown 9")
        self.check_unchanged(console, UnknownName, "name", "unknown", "do unknown 9@0")


class LenTest(ConsoleCase):
    def test_len(self):
        console = Console(Row(10))
        for count, name in enumerate("abcdefgh", 1):
            console.run(f"set {name} -")
            self.assertEqual(len(console), count)
            console.run(f"set {name} A")
            self.assertEqual(len(console), count)
        for count, name in enumerate("hgfedcba"):
            console.run(f"drop {name}")
            self.assertEqual(len(console), 7 - count)

    def test_long_numbers(self):
        console = Console(Row(10))
        start, goal = f"{LONGEST}e-1000@-1000", f"-{LONGEST}e1000@1000"
        way = console.run(f"way {start} {goal}")
        self.assertEqual(console.run(f"set x {way}"), console.run(f"distance {start} {goal}"))
        self.assertEqual(console.run(f"do x {start}"), goal)
        self.assertEqual(format_sequence(parse_sequence(way)), way)

    def test_interface(self):
        for name in ("__init__", "__len__", "run"):
            self.assertIn(name, vars(Console))


if __name__ == "__main__":
    unittest.main()
