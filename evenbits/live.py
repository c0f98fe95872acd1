"""Beginnings of plans, and rows that are made while only some of the times ahead are seen."""

from evenbits.best import best_row, latest_row
from evenbits.common import is_whole
from evenbits.errors import InvalidNumber, InvalidPlan, NothingToUndo
from evenbits.plans import Plan
from evenbits.prices import check_price, cost_of, least_cost
from evenbits.rows import check_rows, sum_range, sums_of


class Sender:
    """A beginning of a plan, whose times come one by one."""

    def __init__(self):
        # For each time its bounds, and what is told of the beginning up to it: the reach and the sure sums.
        self._steps = []

    def add(self, low, high, least, most):
        """Appends a time."""
        if not all([is_whole(bound) for bound in (low, high, least, most)]):
            raise InvalidPlan("the bounds of a time are four integers")
        if low > high or least > most:
            raise InvalidPlan("no lower bound is above its upper bound")
        before_lo, before_hi = self.reach
        lo, hi = max(low, before_lo + least), min(high, before_hi + most)
        if lo > hi:
            raise InvalidPlan("no row would begin so")
        times = [bounds for bounds, _, _ in self._steps] + [(low, high, least, most)]
        self._steps.append((times[-1], (lo, hi), _sure_sums(times, lo, hi)))

    @property
    def known(self):
        """How many times there are."""
        return len(self._steps)

    @property
    def reach(self):
        """The least and the greatest sum that rows of the beginning have at its last time."""
        return self._steps[-1][1] if self._steps else (0, 0)

    @property
    def sure(self):
        """For each time the sum that best rows have there however the plan goes on, or None."""
        return self._steps[-1][2] if self._steps else ()

    @property
    def first_open(self):
        """The first time whose sum is not sure, or None."""
        for time, amount in enumerate(self.sure, start=1):
            if amount is None:
                return time
        return None

    def undo(self):
        """Takes the last time away that was added."""
        if len(self._steps) == 0:
            raise NothingToUndo("no time has been added")
        self._steps.pop()

    def twin(self):
        """A copy that goes on by itself."""
        other = Sender()
        other._steps = list(self._steps)
        return other

    def __len__(self):
        return len(self._steps)


def live_row(plan, ahead):
    """The row that is made entry after entry while only so many times ahead of each time are seen."""
    _check_ahead(ahead)
    check_rows(plan)
    times, amount, row = len(plan), 0, []
    while len(row) + 1 + ahead < times:
        rest = plan.part(len(row), times, amount, plan.total)
        seen = ahead + 1
        least, _ = sum_range(rest, seen)
        row.append(latest_row(rest.part(0, seen, 0, least))[0])
        amount += row[-1]
    # From here on all times to the end are seen, and the rest of a latest best row is the latest one itself.
    return row + latest_row(plan.part(len(row), times, amount, plan.total))


def loss_of(plan, ahead, price):
    """What the live row costs more than the best rows."""
    _check_ahead(ahead)
    check_price(price)
    return cost_of(live_row(plan, ahead), price) - least_cost(plan, price)


def _check_ahead(ahead):
    """Raises InvalidNumber unless a number of times ahead is from 0 on."""
    if not is_whole(ahead) or ahead < 0:
        raise InvalidNumber("the number of times ahead is an integer from 0 on")


def _sure_sums(times, lo, hi):
    """By R6, for each time: the sum in which the first and the latest best rows of a beginning agree, or None."""
    first = sums_of(best_row(_ended_plan(times, hi)))
    latest = sums_of(latest_row(_ended_plan(times, lo)))
    return tuple([one if one == two else None for one, two in zip(first, latest)])


def _ended_plan(times, total):
    """The plan of a beginning that ends at once with a total."""
    low, high = [bounds[0] for bounds in times], [bounds[1] for bounds in times]
    low[-1] = high[-1] = total
    return Plan(low, high, [bounds[2] for bounds in times], [bounds[3] for bounds in times])
