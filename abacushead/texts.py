"""Texts of numbers, states, effects and sequences."""

from abacushead.errors import InvalidText
from abacushead.integers import power_of
from abacushead.numbers import is_number
from abacushead.sequences import is_sequence
from abacushead.states import is_pair

DIGITS = "0123456789"

# Python itself refuses to read and to write very long integers at once.
PIECE = 1000


def format_number(number):
    """Return the text of a number."""
    numerator, exponent = number
    if exponent == 0:
        return decimal(numerator)
    return f"{decimal(numerator)}e{decimal(exponent)}"


def format_state(state):
    """Return the text of a state."""
    number, position = state
    return f"{format_number(number)}@{decimal(position)}"


def format_effect(effect):
    """Return the text of an effect."""
    number, offset = effect
    return f"{format_number(number)}:{decimal(offset)}"


def format_sequence(sequence):
    """Return the text of a sequence."""
    if not sequence:
        return "-"
    return " ".join([operation if count == 1 else operation + decimal(count) for operation, count in sequence])


def parse_number(base, text):
    """Return the number of a text."""
    number = number_in(base, text) if isinstance(text, str) else None
    if number is None:
        raise InvalidText(text)
    return number


def parse_state(base, text):
    """Return the state of a text: a tuple of a number and a position."""
    return parse_pair(base, text, "@")


def parse_effect(base, text):
    """Return the effect of a text."""
    return parse_pair(base, text, ":")


def parse_sequence(text):
    """Return the sequence of a text."""
    sequence = sequence_in(text) if isinstance(text, str) else None
    if sequence is None:
        raise InvalidText(text)
    return sequence


def parse_pair(base, text, mark):
    """Return the tuple of a number and a place that a text has before and behind the mark."""
    pair = pair_in(base, text, mark) if isinstance(text, str) else None
    if pair is None:
        raise InvalidText(text)
    return pair


def pair_in(base, text, mark):
    """Return the tuple of a number and a place of a text, None if it is not such a text."""
    before, found, behind = text.partition(mark)
    pair = (number_in(base, before), integer_in(behind))
    return pair if is_pair(base, pair) else None


def number_in(base, text):
    """Return the number of a text, None if it is not the text of a number."""
    before, mark, behind = text.partition("e")
    exponent = integer_in(behind) if mark else 0
    if mark and exponent == 0:
        return None
    number = (integer_in(before), exponent)
    return number if is_number(base, number) else None


def sequence_in(text):
    """Return the sequence of a text, None if it is not the text of a sequence."""
    if text == "-":
        return []
    sequence = [run_in(word) for word in text.split(" ")]
    return sequence if is_sequence(sequence) else None


def run_in(word):
    """Return the run of a word, None if its count is not written so; the rest is not examined."""
    if len(word) == 1:
        return (word, 1)
    count = integer_in(word[1:])
    return None if count == 1 else (word[:1], count)


def integer_in(text):
    """Return the integer of a text, None if it is not the text of an integer."""
    digits = text[1:] if text.startswith("-") else text
    if not digits or not all([digit in DIGITS for digit in digits]):
        return None
    if digits[0] == "0" and text != "0":
        return None
    value = 0
    for at in range(0, len(digits), PIECE):
        piece = digits[at:at + PIECE]
        value = value * power_of(10, len(piece)) + int(piece)
    return -value if text.startswith("-") else value


def decimal(value):
    """Return the text of an integer."""
    rest = abs(value)
    pieces = []
    while rest >= power_of(10, PIECE):
        rest, piece = divmod(rest, power_of(10, PIECE))
        pieces.append(str(piece).zfill(PIECE))
    pieces.append(str(rest))
    sign = "-" if value < 0 else ""
    return sign + "".join(pieces[::-1])
