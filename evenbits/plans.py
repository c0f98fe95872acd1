"""Plans: the bounds of the sums and of the entries of rows."""

from evenbits.common import is_at_most, is_between, is_whole, is_whole_list
from evenbits.errors import InvalidNumber, InvalidPlan, InvalidSide, InvalidTime


class Plan:
    """Bounds for each of n times; a plan does not change."""

    def __init__(self, low, high, least, most):
        bounds = (low, high, least, most)
        if not all([is_whole_list(numbers) for numbers in bounds]):
            raise InvalidPlan("a plan is made of four lists of 1 to 200 integers")
        if any([len(numbers) != len(low) for numbers in bounds]):
            raise InvalidPlan("the lists of a plan are equally long")
        if not is_at_most(low, high) or not is_at_most(least, most):
            raise InvalidPlan("no lower bound is above its upper bound")
        if low[-1] != high[-1]:
            raise InvalidPlan("both bounds of the last sum are the total")
        self._low = list(low)
        self._high = list(high)
        self._least = list(least)
        self._most = list(most)

    @property
    def times(self):
        """How many times there are."""
        return len(self._low)

    # The lists are told as copies: who changes one of them does not change the plan.

    @property
    def low(self):
        """The lower bounds of the sums."""
        return list(self._low)

    @property
    def high(self):
        """The upper bounds of the sums."""
        return list(self._high)

    @property
    def least(self):
        """The lower bounds of the entries."""
        return list(self._least)

    @property
    def most(self):
        """The upper bounds of the entries."""
        return list(self._most)

    @property
    def total(self):
        """The sum of all entries of each row."""
        return self._low[-1]

    def __len__(self):
        return len(self._low)

    def __eq__(self, other):
        return (isinstance(other, Plan) and self._low == other._low and self._high == other._high
                and self._least == other._least and self._most == other._most)

    def turned(self):
        """The plan with its times backwards."""
        total = self.total
        # What comes behind a time is the total less the sum there, so low and high change places.
        low = [total - bound for bound in self._high[:-1][::-1]]
        high = [total - bound for bound in self._low[:-1][::-1]]
        return Plan(low + [total], high + [total], self._least[::-1], self._most[::-1])

    def lifted(self, by):
        """The plan with each entry greater by a number."""
        if not is_whole(by):
            raise InvalidNumber("a plan is lifted by an integer")
        low = [bound + by * time for time, bound in enumerate(self._low, start=1)]
        high = [bound + by * time for time, bound in enumerate(self._high, start=1)]
        return Plan(low, high, [bound + by for bound in self._least], [bound + by for bound in self._most])

    def negated(self):
        """The plan with each entry negated."""
        low, high = [-bound for bound in self._high], [-bound for bound in self._low]
        return Plan(low, high, [-bound for bound in self._most], [-bound for bound in self._least])

    def multiplied(self, by):
        """The plan with all bounds times a number, 1 or greater."""
        if not is_whole(by) or by < 1:
            raise InvalidNumber("a plan is multiplied by an integer from 1 on")
        low, high = [bound * by for bound in self._low], [bound * by for bound in self._high]
        return Plan(low, high, [bound * by for bound in self._least], [bound * by for bound in self._most])

    def joined(self, other):
        """The plan with the times of another one behind its own."""
        low = self._low + [self.total + bound for bound in other.low]
        high = self._high + [self.total + bound for bound in other.high]
        return Plan(low, high, self._least + other.least, self._most + other.most)

    def part(self, first, last, begin, end):
        """The times first + 1 to last, for the rows with the sum begin at first and end at last."""
        if not is_between(first, 0, len(self) - 1):
            raise InvalidTime("first is a time from 0 to n - 1")
        if not is_between(last, first + 1, len(self)):
            raise InvalidTime("last is a time from first + 1 to n")
        low, high = [0] + self._low, [0] + self._high
        if not is_between(begin, low[first], high[first]):
            raise InvalidNumber("begin lies between the bounds of the sum at first")
        if not is_between(end, low[last], high[last]):
            raise InvalidNumber("end lies between the bounds of the sum at last")
        inner_low = [bound - begin for bound in low[first + 1:last]]
        inner_high = [bound - begin for bound in high[first + 1:last]]
        total = end - begin
        return Plan(inner_low + [total], inner_high + [total], self._least[first:last], self._most[first:last])

    def loosened(self, time, side):
        """The plan with one bound of the sum at a time so wide that it bars nothing any more."""
        check_bound(self, time, side)
        low, high, at = self.low, self.high, time - 1
        if side == "low":
            low[at] = min(low[at], sum(self._least[:time]), self.total - sum(self._most[time:]))
        else:
            high[at] = max(high[at], sum(self._most[:time]), self.total - sum(self._least[time:]))
        return Plan(low, high, self._least, self._most)


def check_bound(plan, time, side):
    """Raises InvalidTime or InvalidSide unless these tell a bound of a sum before the total."""
    if not is_between(time, 1, len(plan) - 1):
        raise InvalidTime("only the bounds between 0 and the last time can be other ones")
    if side not in ("low", "high"):
        raise InvalidSide("a side is low or high")
