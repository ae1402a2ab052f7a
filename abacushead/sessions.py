"""Sessions: operations of several users on the way to a goal, with a budget."""

from abacushead.errors import GoalLost, InvalidLimit, NothingToUndo, OverBudget, UnknownName
from abacushead.integers import is_whole
from abacushead.numbers import within_limits
from abacushead.running import end_of, operation_cost, run
from abacushead.sequences import require_sequence
from abacushead.shortest import distance_of_any
from abacushead.states import require_states

LETTERS = "abcdefghijklmnopqrstuvwxyz"
MAX_LETTERS = 8


class Session:
    """A log of operations of several users, with a start, a goal and a budget."""

    def __init__(self, row, start, goal, budget):
        require_states(row, [start, goal])
        if not is_whole(budget) or budget < 0:
            raise InvalidLimit(budget)
        self.row = row
        self.start = start
        self.goal = goal
        self.limit = budget
        # The entries are never changed in place, so that an attempt can put them back.
        self.entries = []
        self.here = start
        self.paid = 0

    def __eq__(self, other):
        if not isinstance(other, Session):
            return False
        if self.row != other.row or self.start != other.start or self.goal != other.goal:
            return False
        return self.limit == other.limit and self.entries == other.entries

    def __len__(self):
        return len(self.entries)

    @property
    def state(self):
        """The state after all operations of the log."""
        return self.here

    @property
    def spent(self):
        """The cost of the operations in the log."""
        return self.paid

    @property
    def budget(self):
        """The present budget."""
        return self.limit

    def operate(self, user, operation):
        """Perform an operation and return the new state."""
        here = state_after(self, user, operation)
        record(self, user, operation, here)
        return here

    def undo(self, user):
        """Remove the last operation of a user from the log and return the new state."""
        require_user(user)
        index = last_index(self.entries, user)
        entries = self.entries[:index] + self.entries[index + 1:]
        number, position = end_of(self.row, self.start, steps_of(entries))
        self.here = (within_limits(number), position)
        self.paid -= operation_cost(self.row, self.entries[index][1])
        self.entries = entries
        return self.here

    def set_budget(self, value):
        """Set the budget."""
        if not is_whole(value) or value < self.paid:
            raise InvalidLimit(value)
        self.limit = value

    def log(self):
        """Return the log, a list of tuples (user, operation)."""
        return list(self.entries)

    def attempt(self, visitor):
        """Call the visitor with the session and return its result; log and budget stay as before."""
        entries, limit, here, paid = self.entries, self.limit, self.here, self.paid
        try:
            return visitor(self)
        finally:
            self.entries, self.limit, self.here, self.paid = entries, limit, here, paid

    def is_within_reach(self):
        """Return whether the goal is within reach."""
        return missing_at(self, self.here, self.paid) <= 0

    def lost_by(self):
        """Return the index of the operation of the log that lost the goal, None if none did."""
        if self.is_within_reach() or not was_within_reach(self, 0):
            return None
        # A goal that is lost stays lost, as distances satisfy the triangle inequality.
        kept, lost = 0, len(self.entries)
        while lost - kept > 1:
            middle = (kept + lost) // 2
            if was_within_reach(self, middle):
                kept = middle
            else:
                lost = middle
        return kept

    def copy(self):
        """Return an independent session with the same log."""
        return filled(Session(self.row, self.start, self.goal, self.limit), self)

    @classmethod
    def replayed(cls, row, start, goal, budget, log):
        """Return a session in which the operations of a log were performed."""
        return performed(cls(row, start, goal, budget), log)

    @staticmethod
    def is_user(value):
        """Return whether any value is a user."""
        return is_name(value)


class StrictSession(Session):
    """A session in which no operation loses the goal."""

    def operate(self, user, operation):
        """Perform an operation that does not lose the goal and return the new state."""
        here = state_after(self, user, operation)
        missing = missing_at(self, here, self.paid + operation_cost(self.row, operation))
        if missing > 0 and self.is_within_reach():
            raise GoalLost(missing)
        record(self, user, operation, here)
        return here

    # The document names the methods below for this class, too, so they stand in its body.

    def undo(self, user):
        """Remove the last operation of a user, even if this loses the goal, and return the new state."""
        return super().undo(user)

    def set_budget(self, value):
        """Set the budget, even if this loses the goal."""
        super().set_budget(value)

    def copy(self):
        """Return an independent strict session with the same log."""
        return filled(StrictSession(self.row, self.start, self.goal, self.limit), self)

    @classmethod
    def replayed(cls, row, start, goal, budget, log):
        """Return a strict session in which the operations of a log were performed."""
        return performed(cls(row, start, goal, budget), log)


def state_after(session, user, operation):
    """Return the state after one more operation, if the session allows it."""
    require_user(user)
    way = [(operation, 1)]
    require_sequence(way)
    missing = session.paid + operation_cost(session.row, operation) - session.limit
    if missing > 0:
        raise OverBudget(missing)
    return run(session.row, session.here, way)


def record(session, user, operation, here):
    """Put an operation into the log, with the state after it."""
    session.entries = session.entries + [(user, operation)]
    session.here = here
    session.paid += operation_cost(session.row, operation)


def missing_at(session, state, spent):
    """Return by how much the budget is too small to get from a state, at a spent cost, to the goal."""
    return spent + distance_of_any(session.row, state, session.goal) - session.limit


def was_within_reach(session, count):
    """Return whether the goal was within reach, by the present budget, after so many operations."""
    steps = steps_of(session.entries[:count])
    spent = sum([operation_cost(session.row, operation) for operation, once in steps])
    # Since an undo, numbers on the way may be of any size.
    return missing_at(session, end_of(session.row, session.start, steps), spent) <= 0


def steps_of(entries):
    """List the operations of log entries as steps (operation, 1)."""
    return [(operation, 1) for user, operation in entries]


def last_index(entries, user):
    """Return the index of the last entry of a user."""
    for index in range(len(entries) - 1, -1, -1):
        if entries[index][0] == user:
            return index
    raise NothingToUndo(user)


def filled(session, other):
    """Return a session after giving it the log of another one."""
    session.entries = other.entries
    session.here = other.here
    session.paid = other.paid
    return session


def performed(session, log):
    """Return a session after performing the operations of a log in it."""
    for user, operation in log:
        session.operate(user, operation)
    return session


def require_user(value):
    """Raise UnknownName if a value is not a user."""
    if not is_name(value):
        raise UnknownName(value)


def is_name(value):
    """Return whether any value is a text of one to eight lowercase letters."""
    if not isinstance(value, str) or not 1 <= len(value) <= MAX_LETTERS:
        return False
    return all([letter in LETTERS for letter in value])
