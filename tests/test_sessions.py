"""Sessions: points [11] and [3] (h), and the section abacushead/sessions.py."""

import random
import unittest

from abacushead.errors import (GoalLost, InvalidLimit, InvalidSequence, InvalidState, LimitExceeded, NothingToUndo,
                               OutOfRow, OverBudget, UnknownName)
from abacushead.rows import Row
from abacushead.sessions import Session, StrictSession
from abacushead.shortest import distance
from abacushead.states import is_state
from cases import NO_WHOLES, ErrorsCase
from plain import PlainLog
from samples import LONGEST, NO_STATES, OTHER_KINDS, SMALL_ROWS, cost_of_text, some_states

ZERO = ((0, 0), 0)
NINE = ((9, 0), 0)
FAR = 10 ** 399
KINDS = (Session, StrictSession)

NO_USERS = ["", "Ann", "ANN", "ann1", "ann b", " ann", "ann ", "anncarmen", "a" * 9, "-", "a-b", "a_b", "ann\t",
            "a" * 5000, "ann\n", "\u00e9", "\u00df", ("ann",), ["ann"], b"ann"]
NO_USERS += [value for value in OTHER_KINDS if value != "x"]

NO_OPERATIONS = ["r", "", "RL", "X", " ", "R ", "RLAS", "-", ("R",), ["R"], b"R", ("R", 1), {"R": 1}, 1, True, None,
                 object()]


class SessionsCase(ErrorsCase):
    def facts(self, session):
        return (session.state, session.spent, session.budget, session.log(), len(session), session.is_within_reach(),
                session.lost_by())

    def check_unchanged(self, session, error, attribute, expected, function, *arguments):
        """The call raises the error and changes nothing."""
        before = self.facts(session)
        self.check_error(error, attribute, expected, function, *arguments)
        self.assertEqual(self.facts(session), before)

    def check_plain(self, session, plain):
        """The session is what a plain record of its log says."""
        self.assertEqual(session.state, plain.states()[-1])
        self.assertEqual(session.spent, plain.spent())
        self.assertEqual(session.budget, plain.budget)
        self.assertEqual(session.log(), plain.log)
        self.assertEqual(len(session), len(plain.log))
        self.assertIs(session.is_within_reach(), plain.is_within_reach())
        self.assertEqual(session.lost_by(), plain.lost_by())

    def filled(self, kind, row, start, goal, budget, text):
        """A session with the operations of a text by one user."""
        session = kind(row, start, goal, budget)
        for letter in text:
            session.operate("ann", letter)
        return session


class NewTest(SessionsCase):
    def test_example(self):
        session = Session(Row(10), ZERO, NINE, 5)
        self.assertEqual([session.operate("ann", "S"), session.operate("bob", "L")], [((-1, 0), 0), ((-1, 0), -1)])
        self.assertIs(session.is_within_reach(), False)
        self.assertEqual(session.lost_by(), 1)
        self.assertEqual(session.undo("bob"), ((-1, 0), 0))
        self.assertIs(session.is_within_reach(), True)

    def test_new_sessions(self):
        for kind in KINDS:
            for budget in (0, 3, 4, 10 ** 9, FAR):
                session = kind(Row(10), ZERO, NINE, budget)
                self.assertEqual(self.facts(session), (ZERO, 0, budget, [], 0, budget >= 4, None))
                self.assertIs(type(session), kind)

    def test_errors(self):
        row = Row(10, first=-3, last=4)
        for kind in KINDS:
            for value in NO_STATES:
                for start, goal in ((value, ZERO), (ZERO, value), (value, ((20, 0), 0))):
                    self.check_same_error(InvalidState, "value", value, kind, row, start, goal, 5)
                    self.check_same_error(InvalidState, "value", value, kind, row, start, goal, -5)
            for value in NO_WHOLES + [None, -1, -FAR]:
                self.check_same_error(InvalidLimit, "value", value, kind, row, ZERO, NINE, value)

    def test_properties_are_only_read(self):
        for kind in KINDS:
            session = kind(Row(10), ZERO, NINE, 5)
            for name in ("state", "spent", "budget"):
                self.assertRaises(AttributeError, setattr, session, name, 1)

    def test_interface(self):
        for name in ("__init__", "operate", "undo", "state", "spent", "budget", "set_budget", "log", "attempt",
                     "is_within_reach", "lost_by", "copy", "replayed", "is_user", "__len__", "__eq__"):
            self.assertIn(name, vars(Session))
        for name in ("operate", "undo", "set_budget", "copy", "replayed"):
            self.assertIn(name, vars(StrictSession))
        for name in ("state", "spent", "budget"):
            self.assertIsInstance(vars(Session)[name], property)
        self.assertIsInstance(vars(Session)["is_user"], staticmethod)
        for kind in KINDS:
            self.assertIsInstance(vars(kind)["replayed"], classmethod)
        self.assertTrue(issubclass(StrictSession, Session))


class IsUserTest(unittest.TestCase):
    def test_users(self):
        for value in ("a", "z", "ann", "abcdefgh", "zzzzzzzz"):
            self.assertIs(Session.is_user(value), True)
            self.assertIs(StrictSession.is_user(value=value), True)
            self.assertIs(Session(Row(10), ZERO, NINE, 5).is_user(value), True)

    def test_other_values(self):
        for value in NO_USERS:
            self.assertIs(Session.is_user(value), False)
            self.assertIs(StrictSession.is_user(value), False)


class OperateTest(SessionsCase):
    def test_each_operation(self):
        for kind in KINDS:
            session = kind(Row(10, move=2, add=3), ZERO, ((0, 0), 1), 100)
            self.assertEqual(session.operate("ann", "R"), ((0, 0), 1))
            self.assertEqual(session.operate("bob", "A"), ((1, 1), 1))
            self.assertEqual(session.operate("ann", "L"), ((1, 1), 0))
            self.assertEqual(session.operate("carla", "S"), ((9, 0), 0))
            self.assertEqual(session.state, NINE)
            self.assertEqual(session.spent, 10)
            self.assertEqual(session.budget, 100)
            self.assertEqual(len(session), 4)
            self.assertEqual(session.log(), [("ann", "R"), ("bob", "A"), ("ann", "L"), ("carla", "S")])

    def test_unknown_names(self):
        for kind in KINDS:
            session = self.filled(kind, Row(10, first=0), ZERO, NINE, 5, "S")
            for value in NO_USERS:
                for operation in ("A", "X", "L"):
                    self.check_same_error(UnknownName, "name", value, session.operate, value, operation)
            self.assertEqual(session.log(), [("ann", "S")])

    def test_invalid_operations(self):
        for kind in KINDS:
            session = self.filled(kind, Row(10, first=0, last=0), ZERO, NINE, 1, "S")
            for operation in NO_OPERATIONS:
                self.check_unchanged(session, InvalidSequence, "index", 0, session.operate, "ann", operation)

    def test_over_budget(self):
        for kind in KINDS:
            session = self.filled(kind, Row(10, move=7, add=4), ZERO, ((3, 0), 0), 13, "AAA")
            self.check_unchanged(session, OverBudget, "missing", 3, session.operate, "ann", "A")
            self.check_unchanged(session, OverBudget, "missing", 6, session.operate, "bob", "R")
            session.set_budget(15)
            self.check_unchanged(session, OverBudget, "missing", 1, session.operate, "ann", "A")
            self.check_unchanged(session, OverBudget, "missing", 4, session.operate, "ann", "L")
        session = Session(Row(10), ZERO, NINE, 0)
        self.check_unchanged(session, OverBudget, "missing", 1, session.operate, "ann", "A")
        # A budget that is used up exactly.
        session = self.filled(Session, Row(10), ZERO, NINE, 3, "ARL")
        self.assertEqual(session.spent, 3)

    def test_over_budget_before_out_of_row(self):
        session = Session(Row(10, first=0, last=0, move=2), ZERO, NINE, 1)
        self.check_unchanged(session, OverBudget, "missing", 1, session.operate, "ann", "L")
        session.set_budget(2)
        self.check_unchanged(session, OutOfRow, "index", 0, session.operate, "ann", "L")
        session = Session(Row(10), ((LONGEST, 0), 0), NINE, 0)
        self.check_unchanged(session, OverBudget, "missing", 1, session.operate, "ann", "A")

    def test_out_of_row(self):
        for kind in KINDS:
            session = self.filled(kind, Row(10, first=-1, last=1), ZERO, ((0, 0), 1), 50, "R")
            self.check_unchanged(session, OutOfRow, "index", 0, session.operate, "ann", "R")
            for letter in "LL":
                session.operate("ann", letter)
            self.check_unchanged(session, OutOfRow, "index", 0, session.operate, "ann", "L")
            session = kind(Row(10), ((0, 0), 1000), ZERO, 5000)
            self.check_unchanged(session, OutOfRow, "index", 0, session.operate, "ann", "R")

    def test_numbers_out_of_range(self):
        for kind in KINDS:
            session = kind(Row(10, last=0), ((LONGEST, 0), 0), ((LONGEST, 0), 0), 50)
            self.assertEqual(session.operate("ann", "A"), ((1, 300), 0))
            self.check_unchanged(session, LimitExceeded, "limit", 300, session.operate, "ann", "A")
            session = kind(Row(10), ((9, 1000), 1000), ((9, 1000), 1000), 50)
            self.check_unchanged(session, LimitExceeded, "limit", 1000, session.operate, "ann", "A")
            self.assertEqual(session.operate("ann", "S"), ((8, 1000), 1000))

    def test_the_log_is_new(self):
        for kind in KINDS:
            session = self.filled(kind, Row(10), ZERO, NINE, 9, "AA")
            log = session.log()
            self.assertIsNot(session.log(), log)
            log.append(("bob", "R"))
            log[0] = ("bob", "S")
            self.assertEqual(session.log(), [("ann", "A")] * 2)
            self.assertEqual(len(session), 2)


class UndoTest(SessionsCase):
    def test_last_operation_of_a_user(self):
        for kind in KINDS:
            session = kind(Row(10, move=2, add=3), ZERO, NINE, 100)
            for user, operation in [("ann", "A"), ("bob", "R"), ("ann", "R"), ("carla", "A"), ("bob", "S")]:
                session.operate(user, operation)
            self.assertEqual((session.state, session.spent), (((1, 0), 2), 13))
            # The later operations of the others are then at other places.
            self.assertEqual(session.undo("ann"), ((1, 0), 1))
            self.assertEqual(session.log(), [("ann", "A"), ("bob", "R"), ("carla", "A"), ("bob", "S")])
            self.assertEqual(session.spent, 11)
            self.assertEqual(session.undo("bob"), ((11, 0), 1))
            self.assertEqual(session.undo("bob"), ((2, 0), 0))
            self.assertEqual(session.undo("ann"), ((1, 0), 0))
            self.assertEqual(session.log(), [("carla", "A")])
            self.assertEqual((session.state, session.spent, session.budget, len(session)), (((1, 0), 0), 3, 100, 1))
            self.assertEqual(session.undo("carla"), ZERO)
            self.assertEqual(self.facts(session)[:5], (ZERO, 0, 100, [], 0))

    def test_nothing_to_undo(self):
        for kind in KINDS:
            session = self.filled(kind, Row(10), ZERO, NINE, 9, "AA")
            self.check_unchanged(session, NothingToUndo, "user", "bob", session.undo, "bob")
            self.check_unchanged(session, NothingToUndo, "user", "an", session.undo, "an")
            session.undo("ann")
            session.undo("ann")
            self.check_unchanged(session, NothingToUndo, "user", "ann", session.undo, "ann")

    def test_unknown_names(self):
        for kind in KINDS:
            session = self.filled(kind, Row(10), ZERO, NINE, 9, "AA")
            for value in NO_USERS:
                self.check_same_error(UnknownName, "name", value, session.undo, value)
            self.assertEqual(len(session), 2)

    def test_out_of_row(self):
        for kind in KINDS:
            row = Row(10, first=0, last=2)
            for log, index in (([("ann", "R"), ("bob", "L")], 0),
                               ([("bob", "A"), ("ann", "R"), ("bob", "A"), ("bob", "L")], 2),
                               ([("bob", "R"), ("bob", "R"), ("ann", "L"), ("bob", "A"), ("bob", "R")], 3),
                               ([("bob", "R"), ("bob", "L"), ("ann", "R"), ("bob", "L"), ("bob", "R")], 2)):
                session = kind.replayed(row, ZERO, ((0, 0), 1), 100, log)
                self.check_unchanged(session, OutOfRow, "index", index, session.undo, "ann")
                self.assertEqual(session.log(), log)
        session = Session.replayed(Row(10), ((0, 0), 1000), ZERO, 5000, [("ann", "L"), ("bob", "R")])
        self.check_unchanged(session, OutOfRow, "index", 0, session.undo, "ann")

    def test_numbers_out_of_range(self):
        for kind in KINDS:
            log = [("ann", "S"), ("bob", "A"), ("bob", "A")]
            session = kind.replayed(Row(10, last=0), ((LONGEST, 0), 0), ((LONGEST, 0), 0), 100, log)
            self.assertEqual(session.state, ((1, 300), 0))
            self.check_unchanged(session, LimitExceeded, "limit", 300, session.undo, "ann")
            log = [("ann", "S"), ("bob", "A")]
            session = kind.replayed(Row(10, last=1000), ((9, 1000), 1000), ((9, 1000), 1000), 100, log)
            self.check_unchanged(session, LimitExceeded, "limit", 1000, session.undo, "ann")

    def test_only_the_new_number_is_examined(self):
        for kind in KINDS:
            start = ((LONGEST, 0), 0)
            log = [("ann", "S"), ("bob", "A"), ("bob", "A"), ("carla", "S")]
            session = kind.replayed(Row(10, last=0), start, start, 9, log)
            # After the second operation there are 301 digits now.
            self.assertEqual(session.undo("ann"), ((1, 300), 0))
            self.assertEqual(session.log(), log[1:])
            self.assertIs(session.is_within_reach(), True)
            self.assertIsNone(session.lost_by())
            session.set_budget(4)
            self.assertIs(session.is_within_reach(), True)
            session.set_budget(3)
            self.assertIs(session.is_within_reach(), False)
            # From 1 + 10 ** 300, after one operation, two more are needed.
            self.assertEqual(session.lost_by(), 1)
            copied = session.copy()
            self.assertEqual(copied, session)
            self.assertEqual(self.facts(copied), self.facts(session))
            self.check_error(LimitExceeded, "limit", 300, kind.replayed, Row(10, last=0), start, start, 9, log[1:])

    def test_positions_before_the_number(self):
        log = [("ann", "S"), ("bob", "A"), ("bob", "A"), ("ann", "L"), ("bob", "R")]
        session = Session.replayed(Row(10, first=-1, last=0), ((LONGEST, 0), 0), ZERO, 100, log)
        self.check_unchanged(session, OutOfRow, "index", 3, session.undo, "ann")


class BudgetTest(SessionsCase):
    def test_set_budget(self):
        for kind in KINDS:
            session = self.filled(kind, Row(10, move=2, add=3), ZERO, NINE, 40, "AR")
            for budget in (5, 6, 40, 10 ** 9, FAR, 5):
                self.assertIsNone(session.set_budget(budget))
                self.assertEqual(session.budget, budget)
                self.assertEqual((session.spent, len(session)), (5, 2))
            self.check_unchanged(session, InvalidLimit, "value", 4, session.set_budget, 4)

    def test_invalid_budgets(self):
        for kind in KINDS:
            session = self.filled(kind, Row(10), ZERO, NINE, 40, "A")
            for value in NO_WHOLES + [None, 0, -1, -FAR, "40", "ann", range(41), (1, 40)]:
                self.check_same_error(InvalidLimit, "value", value, session.set_budget, value)
            self.assertEqual(session.budget, 40)
            self.assertEqual(kind(Row(10), ZERO, NINE, 40).set_budget(0), None)

    def test_a_budget_that_brings_the_goal_back(self):
        for kind in KINDS:
            session = kind(Row(10), ZERO, NINE, 4)
            session.operate("ann", "S")
            session.set_budget(3)
            self.assertEqual((session.is_within_reach(), session.lost_by()), (False, None))
            session.set_budget(4)
            self.assertEqual((session.is_within_reach(), session.lost_by()), (True, None))
            session.set_budget(3)
            # The goal is not within reach, so that a strict session lets it be.
            session.operate("ann", "L")
            session.set_budget(5)
            self.assertEqual((session.is_within_reach(), session.lost_by()), (False, 1))
            session.set_budget(6)
            self.assertEqual((session.is_within_reach(), session.lost_by()), (True, None))


class ReachTest(SessionsCase):
    def test_budgets_around_the_distance(self):
        for row in SMALL_ROWS:
            states = some_states(row, 81, 8)
            for start in states[:4]:
                for goal in states[4:]:
                    least = distance(row, start, goal)
                    for budget in (0, least - 1, least, least + 1):
                        if budget >= 0:
                            session = Session(row, start, goal, budget)
                            self.assertIs(session.is_within_reach(), least <= budget)
                            self.assertIsNone(session.lost_by())

    def test_against_all_operations(self):
        chance = random.Random(82)
        for row in SMALL_ROWS:
            states = [state for state in some_states(row, 83, 6) if is_state(row, state)]
            for start, goal in zip(states[::2], states[1::2]):
                plain = PlainLog(row, start, goal, distance(row, start, goal) + chance.randint(0, 12))
                session = Session(row, start, goal, plain.budget)
                for _ in range(12):
                    operation = chance.choice("RLAS")
                    try:
                        session.operate("ann", operation)
                    except (OverBudget, OutOfRow):
                        continue
                    plain.log.append(("ann", operation))
                    self.check_plain(session, plain)
                for budget in range(plain.spent(), plain.spent() + 40, 3):
                    session.set_budget(budget)
                    plain.budget = budget
                    self.check_plain(session, plain)

    def test_numbers_of_any_size_on_the_way(self):
        # The cheapest way to the goal has a number that operate refuses.
        row = Row(10)
        start, goal = ((LONGEST - 1, 0), 1), ((LONGEST - 1, 0), 1)
        session = Session(row, start, goal, 2)
        self.assertIs(session.is_within_reach(), True)
        start, goal = ((10 ** 300 - 2, 0), 0), ((-(10 ** 300) + 2, 0), 0)
        least = distance(row, start, goal)
        session = Session(row, start, goal, least)
        self.assertIs(session.is_within_reach(), True)
        session.set_budget(least - 1)
        self.assertIs(session.is_within_reach(), False)
        session = Session(Row(10), ((9, 999), 999), ((9, 1000), 999), 5)
        self.assertIs(session.is_within_reach(), distance(Row(10), ((9, 999), 999), ((9, 1000), 999)) <= 5)

    def test_lost_by_after_an_undo(self):
        session = Session(Row(10), ZERO, NINE, 6)
        for user, operation in [("ann", "S"), ("bob", "L"), ("ann", "R"), ("carla", "L")]:
            session.operate(user, operation)
        self.assertEqual(session.lost_by(), 3)
        session.undo("ann")
        self.assertEqual(session.log(), [("ann", "S"), ("bob", "L"), ("carla", "L")])
        self.assertEqual(session.lost_by(), 2)
        session.undo("bob")
        self.assertIsNone(session.lost_by())
        session.set_budget(5)
        self.assertEqual(session.lost_by(), 1)
        session.set_budget(3)
        self.assertIsNone(session.lost_by())

    def test_long_logs(self):
        session = Session(Row(10), ZERO, NINE, 5000)
        for at in range(1500):
            session.operate("ann", "AS"[at % 2])
        self.assertIsNone(session.lost_by())
        session.set_budget(1503)
        self.assertEqual(session.lost_by(), 1498)
        session.set_budget(1500)
        self.assertEqual(session.lost_by(), 1496)
        self.assertEqual(session.undo("ann"), ((1, 0), 0))


class AttemptTest(SessionsCase):
    def test_results_and_changes(self):
        for kind in KINDS:
            session = self.filled(kind, Row(10), ZERO, NINE, 20, "SR")
            session.operate("bob", "A")
            before = self.facts(session)

            def visitor(visited):
                self.assertIs(visited, session)
                visited.operate("ann", "A")
                visited.undo("bob")
                visited.set_budget(15)
                return visited.log(), visited.state, visited.budget

            result = session.attempt(visitor)
            self.assertEqual(result, ([("ann", "S"), ("ann", "R"), ("ann", "A")], ((9, 0), 1), 15))
            self.assertEqual(self.facts(session), before)
            self.assertEqual(session.attempt(visitor), result)
            self.assertIsNone(session.attempt(lambda visited: visited.set_budget(500)))
            self.assertEqual(session.attempt(lambda visited: visited), session)
            self.assertEqual(self.facts(session), before)

    def test_visitors_that_raise(self):
        for kind in KINDS:
            for failure in (ValueError("x"), KeyboardInterrupt(), OverBudget(7), GoalLost(3), StopIteration()):
                session = self.filled(kind, Row(10), ZERO, NINE, 9, "S")
                before = self.facts(session)

                def visitor(visited):
                    visited.operate("bob", "R")
                    visited.undo("ann")
                    visited.set_budget(100)
                    raise failure

                with self.assertRaises(type(failure)) as caught:
                    session.attempt(visitor)
                self.assertIs(caught.exception, failure)
                self.assertEqual(self.facts(session), before)

    def test_errors_of_the_session_itself(self):
        session = self.filled(Session, Row(10), ZERO, NINE, 2, "S")
        before = self.facts(session)
        self.check_error(OverBudget, "missing", 1, session.attempt,
                         lambda visited: [visited.operate("bob", letter) for letter in "RA"])
        self.check_error(NothingToUndo, "user", "bob", session.attempt,
                         lambda visited: (visited.undo("ann"), visited.undo("bob")))
        self.assertEqual(self.facts(session), before)

    def test_attempts_in_attempts(self):
        session = self.filled(Session, Row(10), ZERO, NINE, 20, "S")

        def inner(visited):
            visited.operate("bob", "R")
            visited.set_budget(7)
            return len(visited)

        def outer(visited):
            visited.operate("ann", "A")
            found = visited.attempt(inner)
            return found, len(visited), visited.budget, visited.state

        self.assertEqual(session.attempt(outer), (3, 2, 20, ZERO))
        self.assertEqual((len(session), session.budget, session.state), (1, 20, ((-1, 0), 0)))

    def test_the_session_goes_on_afterwards(self):
        session = self.filled(Session, Row(10), ZERO, NINE, 20, "S")
        session.attempt(lambda visited: visited.undo("ann"))
        self.assertEqual(session.operate("ann", "R"), ((-1, 0), 1))
        self.assertEqual(session.log(), [("ann", "S"), ("ann", "R")])
        copies = []
        session.attempt(lambda visited: (visited.operate("bob", "A"), copies.append(visited.copy())))
        self.assertEqual(copies[0].log(), [("ann", "S"), ("ann", "R"), ("bob", "A")])
        self.assertEqual(len(session), 2)


class CopiesTest(SessionsCase):
    def test_copies_are_independent(self):
        for kind in KINDS:
            session = self.filled(kind, Row(10), ZERO, NINE, 20, "SR")
            copied = session.copy()
            self.assertIs(type(copied), kind)
            self.assertIsNot(copied, session)
            self.assertEqual(copied, session)
            self.assertEqual(self.facts(copied), self.facts(session))
            before = self.facts(session)
            copied.operate("bob", "A")
            copied.undo("ann")
            copied.set_budget(12)
            self.assertEqual(self.facts(session), before)
            before = self.facts(copied)
            session.operate("ann", "A")
            session.set_budget(30)
            self.assertEqual(self.facts(copied), before)

    def test_replayed(self):
        log = [("ann", "S"), ("bob", "R"), ("ann", "A")]
        for kind in KINDS:
            given = list(log)
            session = kind.replayed(Row(10), ZERO, NINE, 4, given)
            self.assertIs(type(session), kind)
            self.assertEqual((session.log(), session.state, session.spent, session.budget), (log, ((9, 0), 1), 3, 4))
            self.assertEqual(given, log)
            given.clear()
            self.assertEqual(session.log(), log)
            self.assertEqual(kind.replayed(Row(10), ZERO, NINE, 4, session.log()), session)
            self.assertEqual(len(kind.replayed(Row(10), ZERO, NINE, 4, [])), 0)
            self.assertIs(type(session.replayed(Row(10), ZERO, NINE, 4, [])), kind)

    def test_errors_of_replayed(self):
        row = Row(10, first=0)
        for kind in KINDS:
            for value in (None, ((5, -1), 0), ((0, 0), -1)):
                self.check_same_error(InvalidState, "value", value, kind.replayed, row, value, NINE, -1, [("", "")])
                self.check_same_error(InvalidState, "value", value, kind.replayed, row, ZERO, value, -1, [("", "")])
            self.check_error(InvalidLimit, "value", -1, kind.replayed, row, ZERO, NINE, -1, [("", "")])
            self.check_error(UnknownName, "name", "", kind.replayed, row, ZERO, NINE, 9, [("ann", "A"), ("", "")])
            self.check_error(InvalidSequence, "index", 0, kind.replayed, row, ZERO, NINE, 9,
                             [("ann", "A"), ("ann", "")])
            self.check_error(OverBudget, "missing", 1, kind.replayed, row, ZERO, NINE, 2, [("ann", "A")] * 3)
            self.check_error(OutOfRow, "index", 0, kind.replayed, row, ZERO, NINE, 9, [("ann", "A"), ("ann", "L")])
            self.check_error(LimitExceeded, "limit", 300, kind.replayed, row, ((1, 300), 0), NINE, 9, [("ann", "A")])

    def test_the_caller_changes_what_was_handed_in(self):
        log = [("ann", "S")]
        session = Session.replayed(Row(10), ZERO, NINE, 9, log)
        log.append(("ann", "A"))
        log[0] = ("bob", "R")
        self.assertEqual(session.log(), [("ann", "S")])


class EqualTest(SessionsCase):
    def test_equal_sessions(self):
        for kind in KINDS:
            for other in KINDS:
                one = self.filled(kind, Row(10), ZERO, NINE, 9, "SR")
                two = self.filled(other, Row(10, move=1, add=1), ZERO, NINE, 9, "SR")
                self.assertTrue(one == two)
                self.assertFalse(one != two)
                two.set_budget(10)
                self.assertFalse(one == two)
                self.assertTrue(one != two)
                one.set_budget(10)
                self.assertTrue(one == two)
                two.operate("ann", "A")
                self.assertFalse(one == two)
                two.undo("ann")
                self.assertTrue(one == two)
                two.undo("ann")
                two.operate("bob", "R")
                self.assertFalse(one == two)

    def test_present_budgets(self):
        one, two = Session(Row(10), ZERO, NINE, 9), StrictSession(Row(10), ZERO, NINE, 12)
        self.assertFalse(one == two)
        two.set_budget(9)
        self.assertTrue(one == two)

    def test_other_sessions(self):
        one = Session(Row(10), ZERO, NINE, 9)
        for kind in KINDS:
            for other in (kind(Row(11), ZERO, NINE, 9), kind(Row(10, first=0), ZERO, NINE, 9),
                          kind(Row(10), ((0, 0), 1), NINE, 9), kind(Row(10), ZERO, ((9, 0), 1), 9),
                          kind(Row(10), ZERO, NINE, 8)):
                self.assertFalse(one == other)
                self.assertFalse(other == one)
        # The same state by other operations.
        one, two = [self.filled(Session, Row(10), ZERO, NINE, 9, text) for text in ("AS", "SA")]
        self.assertEqual(one.state, two.state)
        self.assertFalse(one == two)

    def test_other_values(self):
        for kind in KINDS:
            session = kind(Row(10), ZERO, NINE, 9)
            for value in OTHER_KINDS + [[], (Row(10), ZERO, NINE, 9), Row(10), ZERO]:
                self.assertFalse(session == value)
                self.assertTrue(session != value)


class StrictTest(SessionsCase):
    def test_goal_lost(self):
        session = StrictSession(Row(10), ZERO, NINE, 4)
        self.check_unchanged(session, GoalLost, "missing", 2, session.operate, "ann", "L")
        self.check_unchanged(session, GoalLost, "missing", 2, session.operate, "ann", "A")
        self.assertEqual(session.operate("ann", "S"), ((-1, 0), 0))
        self.check_unchanged(session, GoalLost, "missing", 2, session.operate, "ann", "L")
        self.check_unchanged(session, GoalLost, "missing", 2, session.operate, "bob", "A")
        for letter in "RAL":
            session.operate("bob", letter)
        self.assertEqual(session.state, NINE)
        self.check_unchanged(session, OverBudget, "missing", 1, session.operate, "ann", "A")
        session.set_budget(5)
        self.check_unchanged(session, GoalLost, "missing", 1, session.operate, "ann", "A")
        session.set_budget(6)
        self.assertEqual(session.operate("ann", "A"), ((1, 1), 0))

    def test_after_the_other_errors(self):
        session = StrictSession(Row(10, first=0), ZERO, NINE, 4)
        self.check_unchanged(session, OutOfRow, "index", 0, session.operate, "ann", "L")
        self.check_unchanged(session, UnknownName, "name", "", session.operate, "", "A")
        self.check_unchanged(session, InvalidSequence, "index", 0, session.operate, "ann", "a")
        session = StrictSession(Row(10), ((9, 1000), 1000), ((9, 1000), 1000), 1)
        self.check_unchanged(session, LimitExceeded, "limit", 1000, session.operate, "ann", "A")
        self.check_unchanged(session, GoalLost, "missing", 1, session.operate, "ann", "S")

    def test_exactly_if_the_goal_was_within_reach(self):
        chance = random.Random(84)
        for row in SMALL_ROWS:
            states = some_states(row, 85, 4)
            for start, goal in zip(states[::2], states[1::2]):
                plain = PlainLog(row, start, goal, max(0, distance(row, start, goal) + chance.randint(-2, 5)))
                strict = StrictSession(row, start, goal, plain.budget)
                for _ in range(25):
                    letter = chance.choice("RLAS")
                    loose = Session.replayed(row, start, goal, plain.budget, plain.log)
                    try:
                        expected = loose.operate("ann", letter)
                    except (OverBudget, OutOfRow) as error:
                        self.assertRaises(type(error), strict.operate, "ann", letter)
                        continue
                    missing = plain.missing(expected, plain.spent() + cost_of_text(row, letter))
                    if plain.is_within_reach() and missing > 0:
                        self.check_unchanged(strict, GoalLost, "missing", missing, strict.operate, "ann", letter)
                    else:
                        self.assertEqual(strict.operate("ann", letter), expected)
                        plain.log.append(("ann", letter))
                    self.check_plain(strict, plain)

    def test_a_goal_that_was_never_within_reach(self):
        session = StrictSession(Row(10), ZERO, ((9, 9), 0), 5)
        for letter in "LLASL":
            session.operate("ann", letter)
        self.assertIs(session.is_within_reach(), False)
        self.assertIsNone(session.lost_by())

    def test_undo_and_set_budget_may_lose_the_goal(self):
        session = StrictSession(Row(10), ZERO, ((1, 0), 0), 1)
        session.operate("ann", "A")
        session.undo("ann")
        self.assertIs(session.is_within_reach(), True)
        session.set_budget(0)
        self.assertIs(session.is_within_reach(), False)
        log = [("ann", "R"), ("bob", "A")]
        session = StrictSession.replayed(Row(10), ZERO, ((1, 1), 1), 2, log)
        self.assertIs(session.is_within_reach(), True)
        self.assertEqual(session.undo("ann"), ((1, 0), 0))
        self.assertIs(session.is_within_reach(), False)
        self.assertEqual(session.lost_by(), 0)

    def test_copies_are_strict(self):
        session = StrictSession.replayed(Row(10), ZERO, NINE, 4, [("ann", "S")])
        for strict in (session, session.copy(), session.copy().copy(),
                       session.replayed(Row(10), ZERO, NINE, 4, session.log())):
            self.assertIs(type(strict), StrictSession)
            self.check_unchanged(strict, GoalLost, "missing", 2, strict.operate, "ann", "L")
        self.check_error(GoalLost, "missing", 2, StrictSession.replayed, Row(10), ZERO, NINE, 4,
                         [("ann", "S"), ("bob", "L")])
        loose = Session.replayed(Row(10), ZERO, NINE, 4, [("ann", "S"), ("bob", "L")])
        self.assertIs(type(loose.copy()), Session)
        # A copy is made also where the operations could not be performed again.
        session.set_budget(3)
        session.operate("bob", "L")
        session.set_budget(4)
        self.assertEqual(session.copy(), loose)
        self.assertIs(type(session.copy()), StrictSession)
        self.assertEqual(session.lost_by(), 1)


if __name__ == "__main__":
    unittest.main()
