"""Values, and plain ways of counting, that several tests use."""

import heapq
import random
from fractions import Fraction

from abacushead.numbers import make_number
from abacushead.rows import Row
from abacushead.states import is_state

LONGEST = 10 ** 300 - 1

# Values that are neither a list nor a tuple, and no text of operations.
OTHER_KINDS = [None, True, False, 0, 1, -7, 10 ** 399, 0.5, "x", b"R", {}, {"R": 1}, {1, 2},
               frozenset((1, 2)), range(2), object(), int, len]

NO_NUMBERS = [
    (10, 0), (0, 1), (10 ** 300 + 1, 0), (-(10 ** 300) - 1, 0), (1, 1001), (1, -1001),
    (True, 0), (1, False), (False, 0), [1, 0], (1,), (1, 0, 0), (), "1", None, 1, ((1, 0), 0),
    ((1,), (0,)), (1, None), ("1", 0), (1, [0]),
]

NO_PLACES = [1001, -1001, 10 ** 399, True, False, None, "0", "", (0,), [0], 0.5, (1, 0), object()]

# No states of Row(10, first=-3, last=4).
NO_STATES = [(value, 0) for value in NO_NUMBERS] + [((0, 0), value) for value in NO_PLACES] + OTHER_KINDS + [
    ((0, 0), -4), ((0, 0), 5), ((1, -4), 0), ((1, 0), 1000), [(0, 0), 0], ([0, 0], 0), (), [], ((0, 0),),
    ((0, 0), 0, 0), (0, 0), ((True, 0), 0), ((0, 0), False), "0@0", (((0, 0), 0), 0),
]

NO_RUNS = [
    ("R", 0), ("A", -1), ("S", True), ("L", False), ("R", "1"), ("R", None), ("R", 1.5), ("R", (1,)),
    ("R", [1]), ("R", -(10 ** 399)), ["R", 1], ("R",), ("R", 1, 1), (), [], "R1", "R", None, 1, True,
    ("r", 1), ("X", 1), ("", 1), ("RL", 1), ("RLAS", 1), (b"R", 1), (None, 1), (1, "R"), (["R"], 1),
    (("R",), 1), (("R", 1), 1), {"R": 1}, object(), 0.5,
]

STEPS = {"R": 1, "L": -1, "A": 0, "S": 0}
SIGNS = {"R": 0, "L": 0, "A": 1, "S": -1}
BACK = {"R": "L", "L": "R", "A": "S", "S": "A"}


def worth(base, number):
    return number[0] * Fraction(base) ** number[1]


def form_of_worth(base, value):
    """The numerator and the exponent, of any size, of the worth of a number."""
    if value == 0:
        return 0, 0
    place = 0
    while base ** -place % value.denominator:
        place -= 50
    numerator = value.numerator * (base ** -place // value.denominator)
    while numerator % base ** 50 == 0:
        numerator, place = numerator // base ** 50, place + 50
    while numerator % base == 0:
        numerator, place = numerator // base, place + 1
    return numerator, place


def performed(base, state, text):
    """The worth and the position after each operation of a text, one by one."""
    amount, position = worth(base, state[0]), state[1]
    passed = [(amount, position)]
    for operation in text:
        position += STEPS[operation]
        amount += SIGNS[operation] * Fraction(base) ** position
        passed.append((amount, position))
    return passed


def some_texts(seed, count, length):
    """The same texts of operations in each run."""
    chance = random.Random(seed)
    return ["".join(chance.choice("RLAS") for _ in range(chance.randint(0, length))) for _ in range(count)]


def some_states(row, seed, count):
    """Some states of a row with short numbers, the same ones in each run."""
    chance = random.Random(seed)
    states = []
    while len(states) < count:
        number = make_number(row.base, chance.randint(-1000, 1000), chance.randint(-3, 3))
        state = (number, chance.randint(-4, 4))
        if is_state(row, state):
            states.append(state)
    return states


def some_pairs(row, seed, count):
    """Some pairs of states, the same ones in each run."""
    states = some_states(row, seed, 2 * count)
    return list(zip(states[::2], states[1::2]))


def runs_of(text):
    """The sequence of a text, counted in a plain way."""
    runs = []
    for letter in text:
        if runs and runs[-1][0] == letter:
            runs[-1] = (letter, runs[-1][1] + 1)
        else:
            runs.append((letter, 1))
    return runs


def text_of(sequence):
    return "".join(letter * count for letter, count in sequence)


def cost_of_text(row, text):
    return sum(row.add_cost if letter in "AS" else row.move_cost for letter in text)


def searched(row, start, budget):
    """All states within the budget with their distances, found step by step."""
    number, position = start
    unit = min(number[1], position - budget // row.move_cost)
    first = (number[0] * row.base ** (number[1] - unit), position)
    found, waiting = {}, [(0, first)]
    while waiting:
        cost, place = heapq.heappop(waiting)
        if place in found:
            continue
        found[place] = cost
        for letter in "RLAS":
            at = place[1] + STEPS[letter]
            further = cost + cost_of_text(row, letter)
            if row.has_place(at) and further <= budget:
                heapq.heappush(waiting, (further, (place[0] + SIGNS[letter] * row.base ** (at - unit), at)))
    return {(make_number(row.base, amount, unit), at): cost for (amount, at), cost in found.items()}


def counted(row, start, goal):
    """The distance by all values that can be left over at each place, without a table."""
    ready, end = max(start[1], goal[1]), 1000 if row.last is None else row.last
    change = worth(row.base, goal[0]) - worth(row.base, start[0])
    low = min([start[1], goal[1]] + ([form_of_worth(row.base, change)[1]] if change else []))
    value = change / Fraction(row.base) ** low
    assert value.denominator == 1
    left, costs, place = {int(value): 0}, [], low
    while place <= end and (place <= ready or any(abs(value) > 1 for value in left)):
        moves = row.move_cost * (2 * (place - low) - abs(goal[1] - start[1]))
        if place >= ready:
            costs += [cost + row.add_cost * abs(value) + moves for value, cost in left.items()]
        following = {}
        for value, cost in left.items():
            for digit in {value % row.base, value % row.base - row.base if value % row.base else 0}:
                after = (value - digit) // row.base
                further = cost + row.add_cost * abs(digit)
                following[after] = min(further, following.get(after, further))
        left, place = following, place + 1
    if place <= end:
        moves = row.move_cost * (2 * (place - low) - abs(goal[1] - start[1]))
        costs += [cost + row.add_cost * abs(value) + moves for value, cost in left.items()]
    return min(costs)


SMALL_ROWS = [
    Row(2), Row(3), Row(10), Row(36), Row(2, first=0), Row(10, first=0), Row(3, last=1), Row(10, last=0),
    Row(2, first=-1, last=2), Row(5, first=-1, last=1), Row(10, first=0, last=1), Row(4, first=0, last=0),
    Row(3, move=2), Row(2, add=2), Row(4, move=3, add=2), Row(10, move=1, add=3), Row(6, move=4, first=0),
    Row(3, add=5, first=-2, last=2), Row(10, move=7, add=1, first=0, last=3),
]


def some_long_numbers(base, seed, count):
    """Long numbers with exponents from -1000 to 1000, the same ones in each run."""
    chance = random.Random(seed)
    numbers = []
    for index in range(count):
        digits = chance.choice([80, 200, 300])
        numerator = chance.choice([-1, 1]) * chance.randint(10 ** (digits - 1), 10 ** digits - 1)
        numerator -= 1 if numerator % base == 0 else 0
        exponent = [-1000, 1000, 0, chance.randint(-1000, 1000), chance.randint(-5, 5)][index % 5]
        numbers.append((numerator, exponent))
    return numbers
