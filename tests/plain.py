"""Plain records of what a session and a console should hold."""

from fractions import Fraction

from samples import SIGNS, STEPS, cost_of_text, counted, form_of_worth, worth


class PlainLog:
    """The log of a session, with all of its states counted anew at each question."""

    def __init__(self, row, start, goal, budget):
        self.row, self.start, self.goal, self.budget = row, start, goal, budget
        self.log = []

    def states(self, log=None):
        """The states, with numbers of any size, before the first and after each operation."""
        amount, place = worth(self.row.base, self.start[0]), self.start[1]
        passed = [(form_of_worth(self.row.base, amount), place)]
        for _, operation in self.log if log is None else log:
            place += STEPS[operation]
            amount += SIGNS[operation] * Fraction(self.row.base) ** place
            passed.append((form_of_worth(self.row.base, amount), place))
        return passed

    def spent(self, count=None):
        return cost_of_text(self.row, "".join(operation for _, operation in self.log[:count]))

    def missing(self, state, spent):
        """By how much the budget is too small to get from a state to the goal."""
        return spent + counted(self.row, state, self.goal) - self.budget

    def is_within_reach(self):
        return self.missing(self.states()[-1], self.spent()) <= 0

    def lost_by(self):
        """The first operation after which the goal is not within reach any more, by trying all."""
        reached = [self.missing(state, self.spent(count)) <= 0 for count, state in enumerate(self.states())]
        found = [index for index in range(len(self.log)) if reached[index] and not reached[index + 1]]
        assert len(found) <= 1
        return found[0] if found else None
