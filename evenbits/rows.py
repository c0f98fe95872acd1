"""Rows of a plan: whether there are any, and which sums they have."""

from evenbits.common import is_at_most, is_between, is_whole_list, sums_from_zero
from evenbits.errors import InvalidRow, InvalidTime, NoRow


def is_row(plan, thing):
    """Whether any object is a row of the plan."""
    if not is_whole_list(thing) or len(thing) != len(plan):
        return False
    sums = sums_of(thing)
    return (is_at_most(plan.least, thing) and is_at_most(thing, plan.most)
            and is_at_most(plan.low, sums) and is_at_most(sums, plan.high))


def sums_of(row):
    """The sums X_1 .. X_n of a list of 1 to 200 integers."""
    if not is_whole_list(row):
        raise InvalidRow("a row is a list of 1 to 200 integers")
    return sums_from_zero(row)[1:]


def has_row(plan):
    """Whether the plan has a row."""
    floor, ceiling = _begun_sums(plan)
    return is_at_most(floor, ceiling)


def conflict(plan):
    """The least pair (s, t) of times whose bounds contradict each other, or None if the plan has a row."""
    low, high = [0] + plan.low, [0] + plan.high
    slowest, fastest = sums_from_zero(plan.least), sums_from_zero(plan.most)
    for s in range(len(plan)):
        for t in range(s + 1, len(plan) + 1):
            unreached = low[t] - high[s] > fastest[t] - fastest[s]
            overshot = low[s] + slowest[t] - slowest[s] > high[t]
            if unreached or overshot:
                return s, t
    return None


def sum_range(plan, time):
    """The least and the greatest sum of rows at a time from 0 to n."""
    if not is_between(time, 0, len(plan)):
        raise InvalidTime("a time from 0 to n is asked for")
    floor, ceiling = sum_ranges(plan)
    return floor[time], ceiling[time]


def fullest(plan):
    """The row with the greatest sums at all times."""
    ceiling = sum_ranges(plan)[1]
    return entries_of(ceiling)


def emptiest(plan):
    """The row with the least sums at all times."""
    floor = sum_ranges(plan)[0]
    return entries_of(floor)


def sum_ranges(plan):
    """Two lists: the least and the greatest sums of rows at the times 0 to n."""
    check_rows(plan)
    floor, ceiling = _begun_sums(plan)
    least, most = plan.least, plan.most
    # A beginning is kept only as far as it can reach the sums that go on to the end.
    for time in range(len(plan) - 1, -1, -1):
        floor[time] = max(floor[time], floor[time + 1] - most[time])
        ceiling[time] = min(ceiling[time], ceiling[time + 1] - least[time])
    return floor, ceiling


def check_rows(plan):
    """Raises NoRow if the plan has no row."""
    if not has_row(plan):
        first, last = conflict(plan)
        raise NoRow(first, last)


def check_row(plan, row):
    """Raises NoRow if the plan has no row, and InvalidRow if an object is none of its rows."""
    check_rows(plan)
    if not is_row(plan, row):
        raise InvalidRow("this is no row of the plan")


def entries_of(sums):
    """The entries of the row that has these sums at the times 0 to n."""
    return [after - before for before, after in zip(sums, sums[1:])]


def _begun_sums(plan):
    """The least and the greatest sums at the times 0 to n if only the bounds up to each time count."""
    floor, ceiling = [0], [0]
    for low, high, least, most in zip(plan.low, plan.high, plan.least, plan.most):
        floor.append(max(low, floor[-1] + least))
        ceiling.append(min(high, ceiling[-1] + most))
    return floor, ceiling
