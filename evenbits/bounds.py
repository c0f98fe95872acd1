"""What a bound of a sum may do to the best rows: how far it can be moved, and whether it is needed at all."""

from evenbits.best import best_entries, best_row, latest_row
from evenbits.common import is_whole
from evenbits.errors import InvalidNumber
from evenbits.plans import Plan, check_bound
from evenbits.rows import check_rows, sums_of


def room_of(plan, time, side):
    """How far a bound can go inwards at most while the best rows stay the same ones."""
    check_bound(plan, time, side)
    return _room_within(plan, plan, time, side)


def needless(plan):
    """The bounds, as tuples (time, side), without which the best rows are the same ones."""
    check_rows(plan)
    # If a best row of the loosened plan is beyond the bound, it is a new one; if none is, all are rows of the plan.
    return [(time, side) for time, side in _inner_bounds(plan)
            if _room_within(plan, plan.loosened(time, side), time, side) >= 0]


def idle(plan):
    """The bounds, as tuples (time, side), without which the best rows have the same sorted entries."""
    entries = best_entries(plan)
    return [(time, side) for time, side in _inner_bounds(plan)
            if best_entries(plan.loosened(time, side)) == entries]


def moved_bound(plan, time, side, by):
    """The plan with one bound of a sum greater by a number."""
    check_bound(plan, time, side)
    if not is_whole(by):
        raise InvalidNumber("a bound is moved by an integer")
    low, high = plan.low, plan.high
    if side == "low":
        low[time - 1] += by
    else:
        high[time - 1] += by
    return Plan(low, high, plan.least, plan.most)


def shifts(plan, other):
    """How much greater, at each time, the greatest sum of best rows of another plan is."""
    if len(other) != len(plan):
        raise InvalidNumber("two plans of equally many times are asked for")
    sums = sums_of(best_row(plan))
    return [after - before for before, after in zip(sums, sums_of(best_row(other)))]


def _room_within(plan, other, time, side):
    """How far inside a bound of a plan the best rows of another plan have their sums at the time."""
    if side == "low":
        return sums_of(latest_row(other))[time - 1] - plan.low[time - 1]
    return plan.high[time - 1] - sums_of(best_row(other))[time - 1]


def _inner_bounds(plan):
    """The bounds of the sums before the total, as ascending tuples (time, side)."""
    return [(time, side) for time in range(1, len(plan)) for side in ("high", "low")]
