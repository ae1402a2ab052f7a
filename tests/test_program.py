"""The whole program: points [1] and [3], long runs against plain records."""

import random
import unittest

from abacushead.choices import first_operations, slacks
from abacushead.console import Console
from abacushead.effects import changed, effect_of
from abacushead.errors import (GoalLost, HeadError, LimitExceeded, NothingToUndo, OutOfRow, OverBudget, UnknownName)
from abacushead.limits import shortest_within
from abacushead.powers import power
from abacushead.routes import best_route
from abacushead.rows import Row
from abacushead.running import cost_of, run
from abacushead.sequences import expanded, joined, reversed_of
from abacushead.sessions import Session, StrictSession
from abacushead.shortest import best_plan, distance, plan_cost, shortest
from abacushead.tables import check_table, make_table
from abacushead.targets import to_number
from abacushead.texts import (format_effect, format_number, format_sequence, format_state, parse_effect, parse_number,
                              parse_sequence, parse_state)
from cases import WaysCase
from plain import PlainLog
from samples import (LONGEST, SMALL_ROWS, cost_of_text, form_of_worth, runs_of, some_long_numbers, some_pairs,
                     some_states, some_texts, text_of, worth)

USERS = ["ann", "bob", "carla", "d", "eeeeeeee"]
ROWS = [Row(10), Row(2, first=-3, last=6), Row(10, move=2, add=3, first=0), Row(7, move=5, last=3), Row(36, add=4)]


class LongSessionTest(WaysCase):
    """Operations, undoing and new budgets in one session, against a plain record."""

    def expected_undo(self, plain, user):
        """The error that undo should raise, and its attribute, or the shorter log."""
        found = [index for index, entry in enumerate(plain.log) if entry[0] == user]
        if not found:
            return NothingToUndo, user, None
        log = plain.log[:found[-1]] + plain.log[found[-1] + 1:]
        for index, (_, place) in enumerate(plain.states(log)[1:]):
            if not plain.row.has_place(place):
                return OutOfRow, index, None
        return None, None, log

    def step(self, plain, session, chance):
        user, operation = chance.choice(USERS), chance.choice("RLASAS")
        how = chance.randint(0, 9)
        if how == 0:
            plain.budget = plain.spent() + chance.randint(0, 60)
            session.set_budget(plain.budget)
        elif how <= 3:
            error, attribute, log = self.expected_undo(plain, user)
            if error is None:
                plain.log = log
                self.assertEqual(session.undo(user), plain.states()[-1])
            else:
                name = "user" if error == NothingToUndo else "index"
                self.check_error(error, name, attribute, session.undo, user)
        else:
            self.operate(plain, session, user, operation)

    def operate(self, plain, session, user, operation):
        spent = plain.spent() + cost_of_text(plain.row, operation)
        state = plain.states(plain.log + [(user, operation)])[-1]
        missing = plain.missing(state, spent)
        if spent > plain.budget:
            self.check_error(OverBudget, "missing", spent - plain.budget, session.operate, user, operation)
        elif not plain.row.has_place(state[1]):
            self.check_error(OutOfRow, "index", 0, session.operate, user, operation)
        elif type(session) is StrictSession and missing > 0 and plain.is_within_reach():
            self.check_error(GoalLost, "missing", missing, session.operate, user, operation)
        else:
            self.assertEqual(session.operate(user, operation), state)
            plain.log = plain.log + [(user, operation)]

    def check_plain(self, plain, session):
        self.assertEqual(session.state, plain.states()[-1])
        self.assertEqual((session.spent, session.budget), (plain.spent(), plain.budget))
        self.assertEqual((session.log(), len(session)), (plain.log, len(plain.log)))
        self.assertIs(session.is_within_reach(), plain.is_within_reach())

    def test_long_runs(self):
        chance = random.Random(111)
        for row in ROWS:
            for kind in (Session, StrictSession):
                start, goal = some_states(row, 112, 2)
                plain = PlainLog(row, start, goal, distance(row, start, goal) + 20)
                session = kind(row, start, goal, plain.budget)
                for count in range(250):
                    self.step(plain, session, chance)
                    self.check_plain(plain, session)
                    if count % 10 == 0:
                        self.assertEqual(session.lost_by(), plain.lost_by())
                        self.assertEqual(session.copy(), session)
                        self.assertIs(type(session.copy()), kind)
                        copied = plain_copy(plain)
                        session.attempt(lambda held: self.step(copied, held, chance))
                        self.check_plain(plain, session)
                self.assertEqual(Session.replayed(row, start, goal, 10 ** 9, plain.log).state, session.state)

    def test_first_operations_lead_to_the_goal(self):
        chance = random.Random(113)
        for row in SMALL_ROWS:
            for start, goal in some_pairs(row, 114, 4):
                least = distance(row, start, goal)
                if least > 300:
                    continue
                session = StrictSession(row, start, goal, least)
                while first_operations(row, session.state, goal):
                    choices = first_operations(row, session.state, goal)
                    for operation, slack in slacks(row, session.state, goal).items():
                        if slack > 0 and cost_of_text(row, operation) <= session.budget - session.spent:
                            self.check_error(GoalLost, "missing", slack, session.operate, "ann", operation)
                    session.operate("ann", chance.choice(choices))
                    self.assertIs(session.is_within_reach(), True)
                self.assertEqual((session.state, session.spent), (goal, least))
                self.assertIsNone(session.lost_by())

    def test_shortest_in_a_session(self):
        row = Row(10, move=2)
        start, goal = ((0, 0), 0), ((987654321987654321, -4), 3)
        session = Session(row, start, goal, distance(row, start, goal))
        for operation in text_of(shortest(row, start, goal)):
            session.operate("ann", operation)
            self.assertIs(session.is_within_reach(), True)
        self.assertEqual((session.state, session.spent), (goal, session.budget))


def plain_copy(plain):
    """A plain record that can be changed without changing the given one."""
    copied = PlainLog(plain.row, plain.start, plain.goal, plain.budget)
    copied.log = list(plain.log)
    return copied


class LongConsoleTest(WaysCase):
    """Commands of one console, against a dict of sequences."""

    def expected(self, row, kept, command):
        """The answer by the functions, with the record changed as the command does."""
        word, *rest = command.split(" ")
        if word == "set":
            sequence = parse_sequence(" ".join(rest[1:]))
            if rest[0] not in kept and len(kept) == 8:
                raise LimitExceeded(8)
            kept[rest[0]] = sequence
            return str(cost_of(row, sequence))
        if word == "names":
            return " ".join(sorted(kept)) or "-"
        if word in ("distance", "way", "first"):
            start, goal = [parse_state(row.base, text) for text in rest]
            return {"distance": lambda: str(distance(row, start, goal)),
                    "way": lambda: format_sequence(shortest(row, start, goal)),
                    "first": lambda: first_operations(row, start, goal) or "-"}[word]()
        names = [text for text in rest if "@" not in text]
        start = parse_state(row.base, rest[1]) if word == "do" else None
        for name in names:
            if name not in kept:
                raise UnknownName(name)
        if word == "drop":
            del kept[rest[0]]
            return "ok"
        if word == "do":
            return format_state(run(row, start, kept[rest[0]]))
        effects = [effect_of(row.base, kept[name]) for name in names]
        return format_effect(effects[0]) if word == "effect" else ("no", "yes")[effects[0] == effects[1]]

    def some_command(self, row, chance, sequences, states):
        word = chance.choice(["set", "set", "set", "drop", "names", "effect", "same", "do", "do", "distance", "way",
                              "first"])
        name, other = chance.choice("abcdefghijkl"), chance.choice("abcdefghijkl")
        start, goal = chance.choice(states), chance.choice(states)
        return word + {"set": f" {name} {chance.choice(sequences)}", "drop": f" {name}", "names": "",
                       "effect": f" {name}", "same": f" {name} {other}", "do": f" {name} {start}"}.get(
                           word, f" {start} {goal}")

    def test_long_runs(self):
        chance = random.Random(115)
        for row in ROWS:
            console, kept = Console(row), {}
            sequences = [format_sequence(runs_of(text)) for text in some_texts(116, 12, 5)] + ["R1001", "R1", "A0"]
            states = [format_state(state) for state in some_states(row, 117, 6)] + ["0@1001", "0@999", "5e-999@0"]
            for _ in range(600):
                command = self.some_command(row, chance, sequences, states)
                try:
                    answer = self.expected(row, kept, command)
                except (HeadError, OutOfRow, LimitExceeded, UnknownName) as error:
                    with self.assertRaises(type(error)) as caught:
                        console.run(command)
                    self.assertEqual(vars(caught.exception), vars(error), command)
                else:
                    self.assertEqual(console.run(command), answer, command)
                self.assertEqual(len(console), len(kept))
                self.assertEqual(console.run("names"), " ".join(sorted(kept)) or "-")

    def test_answered_ways_lead_to_the_goal(self):
        for row in SMALL_ROWS:
            console = Console(row)
            for start, goal in some_pairs(row, 118, 8):
                near, far = format_state(start), format_state(goal)
                way = console.run(f"way {near} {far}")
                self.assertEqual(console.run(f"set forth {way}"), console.run(f"distance {near} {far}"))
                self.assertEqual(console.run(f"do forth {near}"), far)
                back = format_sequence(reversed_of(parse_sequence(way)))
                self.assertEqual(console.run(f"set back {back}"), console.run(f"distance {far} {near}"))
                self.assertEqual(console.run(f"do back {far}"), near)
                both = format_sequence(joined(parse_sequence(way), parse_sequence(back)))
                console.run(f"set both {both}")
                console.run("set none -")
                self.assertEqual(console.run("same both none"), "yes")
                self.assertEqual(console.run("first " + far + " " + near) == "-", start == goal)


class GuaranteesTest(WaysCase):
    """Point [3] over several modules."""

    def test_equal_effects_change_states_in_the_same_way(self):
        texts = some_texts(119, 60, 5)
        states = [((0, 0), 0), ((7, -1), 3), ((-12, 2), -5)]
        for one in texts:
            for other in texts:
                equal = effect_of(10, runs_of(one)) == effect_of(10, runs_of(other))
                for state in states:
                    same = run(Row(10), state, runs_of(one)) == run(Row(10), state, runs_of(other))
                    self.assertIs(same, equal)

    def test_powers_are_repeated_sequences(self):
        for text in some_texts(120, 40, 5):
            effect = effect_of(10, runs_of(text))
            for exponent in range(5):
                sequence = joined(*[runs_of(text)] * exponent)
                self.assertEqual(power(10, effect, exponent), effect_of(10, sequence))
                self.assertEqual(power(10, effect, -exponent), effect_of(10, reversed_of(sequence)))
                self.assertEqual(changed(10, ((5, 0), 2), power(10, effect, exponent)),
                                 run(Row(10), ((5, 0), 2), sequence))

    def test_the_least_cost_by_all_functions(self):
        for row in SMALL_ROWS:
            for start, goal in some_pairs(row, 121, 6):
                least = distance(row, start, goal)
                self.assertEqual(plan_cost(row, start, goal, best_plan(row, start, goal)), least)
                self.assertEqual(shortest_within(row, start, goal)[0], least)
                self.assertEqual(best_route(row, start, [goal]), (least, [0]))
                self.assertLessEqual(to_number(row, start, goal[0])[0], least)
                table = make_table(row, start, goal)
                self.assertIs(check_table(row, start, goal, least, table), True)
                self.assertIs(check_table(row, start, goal, least + 1, table), False)
                self.assertIs(Session(row, start, goal, least).is_within_reach(), True)

    def test_formatted_values_are_parsed_back(self):
        for base in (2, 10, 36):
            for number in some_long_numbers(base, 122, 20):
                self.assertEqual(parse_number(base, format_number(number)), number)
                for place in (-1000, 0, 17):
                    self.assertEqual(parse_state(base, format_state((number, place))), (number, place))
                    self.assertEqual(parse_effect(base, format_effect((number, place))), (number, place))
            row = Row(base)
            for one, other in zip(some_long_numbers(base, 123, 5), some_long_numbers(base, 124, 5)):
                way = shortest(row, (one, 0), (other, 9))
                self.assertEqual(parse_sequence(format_sequence(way)), way)
                self.check_way(row, (one, 0), (other, 9), way, distance(row, (one, 0), (other, 9)))

    def test_long_numbers_through_the_program(self):
        row = Row(10)
        # Two digits fewer than allowed, as the numbers on the way may be somewhat longer.
        start, goal = ((LONGEST // 100, -150), 0), ((-(LONGEST // 100), -150), 0)
        least = distance(row, start, goal)
        way = shortest(row, start, goal)
        self.assertEqual(run(row, start, way), goal)
        self.assertEqual(len(expanded(way)), least)
        self.assertEqual(form_of_worth(10, worth(10, goal[0])), goal[0])
        session = StrictSession(row, start, goal, least)
        for operation in expanded(way):
            session.operate("ann", operation)
        self.assertEqual(session.state, goal)


if __name__ == "__main__":
    unittest.main()
