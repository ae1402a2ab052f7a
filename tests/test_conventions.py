"""Conventions: point [2] and the opening paragraphs of the interface."""

import inspect
import unittest

from abacushead import (choices, console, effects, layers, limits, numbers, powers, routes, rows, running, sequences,
                        sessions, shortest, states, tables, targets, texts)
from abacushead.errors import InvalidNumber, InvalidRow
from abacushead.numbers import floor_at, is_number, make_number, minus, plus, scaled
from abacushead.rows import Row

SIGNATURES = {
    numbers: {
        "is_number": "(base, value)", "make_number": "(base, numerator, exponent)", "plus": "(base, one, other)",
        "minus": "(base, one, other)", "scaled": "(base, number, places)", "floor_at": "(base, number, place)",
    },
    states: {"is_state": "(row, value)", "make_state": "(row, numerator, position)"},
    sequences: {
        "is_sequence": "(value)", "joined": "(*sequences)", "operations": "(sequence)", "reversed_of": "(sequence)",
        "expanded": "(sequence)", "packed": "(text)",
    },
    running: {
        "run": "(row, state, sequence)", "walk": "(row, state, sequence)", "cost_of": "(row, sequence)",
        "visited": "(state, sequence)",
    },
    effects: {
        "is_effect": "(base, value)", "effect_of": "(base, sequence)", "composed": "(base, *effects)",
        "inverse": "(base, effect)", "changed": "(base, state, effect)",
    },
    shortest: {
        "distance": "(row, start, goal)", "best_plan": "(row, start, goal)",
        "plan_cost": "(row, start, goal, value)", "perform": "(row, start, goal, plan)",
        "shortest": "(row, start, goal)",
    },
    tables: {
        "table_range": "(row, start, goal)", "make_table": "(row, start, goal)",
        "check_table": "(row, start, goal, bound, value)",
    },
    choices: {"slacks": "(row, start, goal)", "first_operations": "(row, start, goal)"},
    limits: {"shortest_within": "(row, start, goal, *, additions=None, places=None)"},
    powers: {
        "power": "(base, effect, exponent)", "root": "(base, effect, degree)", "commutes": "(base, one, other)",
        "conjugate": "(base, one, by)", "conjugators": "(base, one, other)",
    },
    layers: {"layers": "(row, start, budget)", "greatest": "(row, start, budget)"},
    targets: {
        "to_number": "(row, start, number)", "to_interval": "(row, start, low, high)",
        "to_residue": "(row, start, modulus, residue)",
    },
    routes: {"route_cost": "(row, states)", "best_route": "(row, start, states)"},
    texts: {
        "format_number": "(number)", "format_state": "(state)", "format_effect": "(effect)",
        "format_sequence": "(sequence)", "parse_number": "(base, text)", "parse_state": "(base, text)",
        "parse_effect": "(base, text)", "parse_sequence": "(text)",
    },
}

# The methods of each class, without the object itself.
METHODS = {
    rows.Row: {"__init__": "(base, *, move=1, add=1, first=None, last=None)", "has_place": "(value)"},
    sessions.Session: {
        "__init__": "(row, start, goal, budget)", "operate": "(user, operation)", "undo": "(user)",
        "set_budget": "(value)", "log": "()", "attempt": "(visitor)", "is_within_reach": "()", "lost_by": "()",
        "copy": "()", "replayed": "(row, start, goal, budget, log)", "is_user": "(value)",
    },
    sessions.StrictSession: {
        "__init__": "(row, start, goal, budget)", "operate": "(user, operation)", "undo": "(user)",
        "set_budget": "(value)", "log": "()", "attempt": "(visitor)", "is_within_reach": "()", "lost_by": "()",
        "copy": "()", "replayed": "(row, start, goal, budget, log)", "is_user": "(value)",
    },
    console.Console: {"__init__": "(row)", "run": "(command)"},
}

FUNCTIONS = [(module, name) for module in SIGNATURES for name in SIGNATURES[module]]

ROW = Row(10)
START, GOAL = ((0, 0), 0), ((9, 0), 0)
WAY = [("R", 2), ("A", 5), ("L", 1)]

# Arguments by their names, in another order than in the signatures, and the result.
CALLS = [
    (states.is_state, {"value": START, "row": ROW}, True),
    (states.make_state, {"position": 3, "row": ROW, "numerator": 500}, ((5, 2), 3)),
    (sequences.is_sequence, {"value": WAY}, True),
    (sequences.reversed_of, {"sequence": WAY}, [("R", 1), ("S", 5), ("L", 2)]),
    (sequences.expanded, {"sequence": WAY}, "RRAAAAAL"),
    (sequences.packed, {"text": "RRA"}, [("R", 2), ("A", 1)]),
    (running.run, {"sequence": WAY, "state": START, "row": ROW}, ((5, 2), 1)),
    (running.cost_of, {"sequence": WAY, "row": ROW}, 8),
    (running.visited, {"sequence": WAY, "state": START}, (0, 2)),
    (effects.is_effect, {"value": ((3, 0), 1), "base": 10}, True),
    (effects.effect_of, {"sequence": WAY, "base": 10}, ((5, 2), 1)),
    (effects.inverse, {"effect": ((3, 0), 1), "base": 10}, ((-3, -1), -1)),
    (effects.changed, {"effect": ((3, 0), 1), "state": ((7, 0), 2), "base": 10}, ((307, 0), 3)),
    (shortest.distance, {"goal": GOAL, "row": ROW, "start": START}, 4),
    (shortest.best_plan, {"goal": GOAL, "row": ROW, "start": START}, (0, 1, [-1, 1])),
    (shortest.plan_cost, {"value": (0, 0, [9]), "goal": GOAL, "row": ROW, "start": START}, 9),
    (shortest.perform, {"plan": (0, 0, [9]), "goal": GOAL, "row": ROW, "start": START}, [("A", 9)]),
    (shortest.shortest, {"goal": ((9, 0), 1), "row": ROW, "start": START}, [("S", 1), ("R", 1), ("A", 1)]),
    (tables.table_range, {"goal": GOAL, "row": ROW, "start": START}, (0, 1)),
    (tables.make_table, {"goal": GOAL, "row": ROW, "start": START}, [(0, None), (9, 1)]),
    (tables.check_table, {"value": [(0, None), (9, 1)], "bound": 4, "goal": GOAL, "row": ROW, "start": START}, True),
    (choices.slacks, {"goal": GOAL, "row": ROW, "start": START}, {"R": 0, "L": 2, "A": 2, "S": 0}),
    (choices.first_operations, {"goal": GOAL, "row": ROW, "start": START}, "RS"),
    (limits.shortest_within, {"goal": GOAL, "row": ROW, "start": START}, (4, [("S", 1), ("R", 1), ("A", 1), ("L", 1)])),
    (powers.power, {"exponent": 3, "effect": ((3, 0), 1), "base": 10}, ((333, 0), 3)),
    (powers.root, {"degree": 3, "effect": ((333, 0), 3), "base": 10}, ((3, 0), 1)),
    (powers.commutes, {"other": ((1, 0), 0), "one": ((3, 0), 1), "base": 10}, False),
    (powers.conjugate, {"by": ((5, 0), 2), "one": ((3, 0), 0), "base": 10}, ((3, 2), 0)),
    (powers.conjugators, {"other": ((1, 1), 2), "one": ((1, 0), 2), "base": 10}, [1]),
    (layers.layers, {"budget": 3, "start": START, "row": ROW}, [1, 4, 12, 36]),
    (layers.greatest, {"budget": 5, "start": START, "row": ROW}, ((1, 4), 4)),
    (targets.to_number, {"number": (9, 0), "start": START, "row": ROW}, (3, 1)),
    (targets.to_interval, {"high": 98, "low": 95, "start": START, "row": ROW}, (5, 98, 2)),
    (targets.to_residue, {"residue": 3, "modulus": 7, "start": START, "row": Row(10, first=0)},
     (2, [("R", 1), ("A", 1)])),
    (routes.route_cost, {"states": [START, GOAL], "row": ROW}, 4),
    (routes.best_route, {"states": [GOAL, START], "start": START, "row": ROW}, (4, [1, 0])),
    (texts.format_number, {"number": (-5, -1)}, "-5e-1"),
    (texts.format_state, {"state": GOAL}, "9@0"),
    (texts.format_effect, {"effect": ((3, 0), 1)}, "3:1"),
    (texts.format_sequence, {"sequence": WAY}, "R2 A5 L"),
    (texts.parse_number, {"text": "-5e-1", "base": 10}, (-5, -1)),
    (texts.parse_state, {"text": "9@0", "base": 10}, GOAL),
    (texts.parse_effect, {"text": "3:1", "base": 10}, ((3, 0), 1)),
    (texts.parse_sequence, {"text": "R2 A5 L"}, WAY),
]


class ParametersTest(unittest.TestCase):
    def test_signatures(self):
        for module, name in FUNCTIONS:
            with self.subTest(name=name):
                self.assertEqual(str(inspect.signature(getattr(module, name))), SIGNATURES[module][name])

    def test_further_calls_by_name(self):
        for function, arguments, expected in CALLS:
            with self.subTest(function=function.__name__):
                result = function(**arguments)
                self.assertEqual(result, expected)
                self.assertIs(type(result), type(expected))

    def test_further_calls_by_position(self):
        for function, arguments, expected in CALLS:
            with self.subTest(function=function.__name__):
                parameters = inspect.signature(function).parameters.values()
                names = [parameter.name for parameter in parameters if parameter.default is parameter.empty]
                self.assertEqual(function(*[arguments[name] for name in names]), expected)

    def test_iterators_by_name(self):
        self.assertEqual("".join(sequences.operations(sequence=WAY)), "RRAAAAAL")
        self.assertEqual(list(running.walk(sequence=[("A", 5), ("R", 1)], state=START, row=ROW)),
                         [((5, 0), 0), ((5, 0), 1)])

    def test_any_number_of_arguments(self):
        self.assertEqual(sequences.joined(WAY, WAY), WAY + WAY)
        self.assertEqual(effects.composed(10, ((3, 0), 1), ((3, 0), 1)), ((33, 0), 2))
        self.assertRaises(TypeError, sequences.joined, sequences=WAY)

    def test_arguments_are_needed(self):
        for function, arguments, _ in CALLS:
            with self.subTest(function=function.__name__):
                for name in arguments:
                    others = {other: arguments[other] for other in arguments if other != name}
                    self.assertRaises(TypeError, function, **others)

    def test_calls_by_name(self):
        self.assertIs(is_number(base=10, value=(5, 2)), True)
        self.assertIs(is_number(value=(10, 2), base=10), False)
        self.assertEqual(make_number(exponent=1, numerator=500, base=10), (5, 3))
        self.assertEqual(plus(other=(5, -1), base=10, one=(5, 0)), (55, -1))
        self.assertEqual(minus(other=(5, -1), base=10, one=(5, 0)), (45, -1))
        self.assertEqual(scaled(places=-1, number=(5, 0), base=10), (5, -1))
        self.assertEqual(floor_at(place=2, base=10, number=(3, 4)), 300)
        self.assertIs(Row(base=10).has_place(value=3), True)

    def test_calls_by_position_and_name(self):
        self.assertIs(is_number(10, value=(5, 2)), True)
        self.assertEqual(make_number(10, 500, exponent=1), (5, 3))
        self.assertEqual(plus(10, (5, 0), other=(5, -1)), (55, -1))
        self.assertEqual(minus(10, one=(5, 0), other=(5, -1)), (45, -1))
        self.assertEqual(scaled(10, (5, 0), places=-1), (5, -1))
        self.assertEqual(floor_at(10, number=(3, 4), place=2), 300)

    def test_errors_in_calls_by_name(self):
        with self.assertRaises(InvalidNumber) as caught:
            plus(other=(20, 0), one=(10, 0), base=10)
        self.assertEqual(caught.exception.value, (10, 0))
        with self.assertRaises(InvalidRow) as caught:
            Row(last=1001, base=1)
        self.assertEqual(caught.exception.field, "base")

    def test_parameters_after_the_star(self):
        shortest_within = limits.shortest_within
        found = (9, [("A", 9)])
        self.assertEqual(shortest_within(places=1, goal=GOAL, additions=9, row=ROW, start=START), found)
        self.assertEqual(shortest_within(ROW, START, places=1, goal=GOAL), found)
        self.assertEqual(shortest_within(ROW, START, GOAL, additions=None, places=1), found)
        self.assertIsNone(shortest_within(ROW, START, GOAL, additions=1))
        self.assertRaises(TypeError, shortest_within, ROW, START, GOAL, 1)

    def test_keyword_only_parameters(self):
        self.assertRaises(TypeError, Row, 10, 1)
        self.assertRaises(TypeError, Row, 10, 1, 1)
        self.assertRaises(TypeError, Row, 10, 1, 1, 0, 5)
        self.assertRaises(TypeError, Row, 10, 1, add=1)

    def test_base_has_no_default(self):
        self.assertRaises(TypeError, Row)
        self.assertRaises(TypeError, Row, move=1, add=1, first=0, last=5)

    def test_parameters_with_a_default_are_left_out(self):
        row = Row(base=7, last=3)
        self.assertEqual((row.base, row.move_cost, row.add_cost, row.first, row.last), (7, 1, 1, None, 3))


class MethodsTest(unittest.TestCase):
    def test_signatures(self):
        for kind, methods in METHODS.items():
            for name, expected in methods.items():
                with self.subTest(kind=kind.__name__, name=name):
                    found = str(inspect.signature(getattr(kind, name)))
                    self.assertEqual(found.replace("(self, ", "(").replace("(self)", "()"), expected)

    def test_sessions_by_name(self):
        for kind in (sessions.Session, sessions.StrictSession):
            session = kind(budget=5, goal=GOAL, start=START, row=ROW)
            self.assertEqual(session.operate(operation="S", user="ann"), ((-1, 0), 0))
            self.assertEqual(session.undo(user="ann"), START)
            self.assertIsNone(session.set_budget(value=4))
            self.assertEqual(session.budget, 4)
            self.assertEqual(session.attempt(visitor=len), 0)
            self.assertIs(session.is_user(value="ann"), True)
            self.assertIs(kind.is_user(value="Ann"), False)
            other = kind.replayed(log=[("ann", "S")], budget=5, goal=GOAL, start=START, row=ROW)
            self.assertEqual(other.log(), [("ann", "S")])
            self.assertEqual(len(other.copy()), 1)
            self.assertEqual(session, kind(ROW, START, goal=GOAL, budget=4))
            self.assertEqual(kind.replayed(ROW, START, GOAL, 5, [("ann", "S")]), other)

    def test_console_by_name(self):
        held = console.Console(row=ROW)
        self.assertEqual(held.run(command="set x A"), "1")
        self.assertEqual(held.run("names"), "x")

    def test_arguments_of_methods_are_needed(self):
        session = sessions.Session(ROW, START, GOAL, 5)
        for call in (sessions.Session, sessions.StrictSession, console.Console, session.operate, session.undo,
                     session.set_budget, session.attempt, session.is_user, sessions.Session.replayed,
                     console.Console(ROW).run, lambda: session.operate("ann"),
                     lambda: sessions.Session(ROW, START, GOAL)):
            self.assertRaises(TypeError, call)


class InterfaceTest(unittest.TestCase):
    def test_functions_are_defined_where_they_are_listed(self):
        for module, name in FUNCTIONS:
            with self.subTest(name=name):
                function = getattr(module, name)
                self.assertTrue(inspect.isfunction(function))
                self.assertEqual((function.__module__, function.__name__), (module.__name__, name))

    def test_functions_that_yield(self):
        yielding = [name for module, name in FUNCTIONS if inspect.isgeneratorfunction(getattr(module, name))]
        self.assertEqual(yielding, ["operations", "walk"])

    def test_classes_are_defined_where_they_are_listed(self):
        for kind, module in ((sessions.Session, sessions), (sessions.StrictSession, sessions),
                             (console.Console, console), (rows.Row, rows)):
            self.assertEqual(kind.__module__, module.__name__)

    def test_row_is_defined_where_it_is_listed(self):
        self.assertEqual(Row.__module__, rows.__name__)
        for name in ("__init__", "__eq__", "has_place", "base", "move_cost", "add_cost", "first", "last",
                     "MIN_BASE", "MAX_BASE"):
            with self.subTest(name=name):
                self.assertIn(name, vars(Row))


class RepeatedCallsTest(unittest.TestCase):
    def test_further_equal_calls_return_equal_results(self):
        for function, arguments, expected in CALLS:
            with self.subTest(function=function.__name__):
                before = repr({name: arguments[name] for name in arguments if name != "row"})
                results = [function(**arguments) for _ in range(3)]
                self.assertEqual(results, [expected] * 3)
                self.assertEqual(repr({name: arguments[name] for name in arguments if name != "row"}), before)

    def test_returned_lists_and_dicts_are_new(self):
        for function, arguments, expected in CALLS:
            if isinstance(expected, (list, dict)):
                with self.subTest(function=function.__name__):
                    self.assertIsNot(function(**arguments), function(**arguments))
                    function(**arguments).clear()
                    self.assertEqual(function(**arguments), expected)
        self.assertIsNot(shortest.best_plan(ROW, START, GOAL)[2], shortest.best_plan(ROW, START, GOAL)[2])

    def test_equal_calls_return_equal_results(self):
        number = (123, -2)
        for _ in range(3):
            self.assertEqual(make_number(10, 1230, -3), number)
            self.assertEqual(plus(10, number, number), (246, -2))
            self.assertEqual(minus(10, number, (23, -2)), (1, 0))
            self.assertEqual(scaled(10, number, 4), (123, 2))
            self.assertEqual(floor_at(10, number, 0), 1)
            self.assertRaises(InvalidNumber, plus, 10, number, (10, 0))
        self.assertEqual(number, (123, -2))

    def test_errors_leave_other_rows_alone(self):
        row = Row(10, first=0, last=5)
        self.assertRaises(InvalidRow, Row, 10, first=3, last=2)
        self.assertEqual((row.first, row.last), (0, 5))
        self.assertEqual(Row(10).first, None)


if __name__ == "__main__":
    unittest.main()
