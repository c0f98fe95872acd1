"""Rows through a sum at a time: the best ones on both sides of it, and what they cost."""

from evenbits.best import best_row
from evenbits.common import is_between, is_whole
from evenbits.errors import InvalidNumber, InvalidTime
from evenbits.prices import check_price, cost_of
from evenbits.rows import sum_range


def through(plan, time, amount):
    """The row with a sum at a time whose halves, up to the time and behind it, are best, with the greatest sums."""
    _check_point(plan, time, amount)
    return _row_through(plan, time, amount)


def cost_through(plan, price, time, amount):
    """The least cost of rows with a sum at a time."""
    check_price(price)
    _check_point(plan, time, amount)
    return cost_of(_row_through(plan, time, amount), price)


def slope(plan, price, time, amount):
    """What the least cost grows by if the sum at a time is one more."""
    cost = cost_through(plan, price, time, amount)
    return cost_through(plan, price, time, amount + 1) - cost


def _row_through(plan, time, amount):
    """The best rows of both halves, one behind the other; the sum is known to be one of rows."""
    row = best_row(plan.part(0, time, 0, amount))
    if time < len(plan):
        row = row + best_row(plan.part(time, len(plan), amount, plan.total))
    return row


def _check_point(plan, time, amount):
    """Raises an error unless rows of the plan have the sum at the time, which is from 1 to n."""
    if not is_between(time, 1, len(plan)):
        raise InvalidTime("a time from 1 to n is asked for")
    if not is_whole(amount):
        raise InvalidNumber("a sum is an integer")
    least, greatest = sum_range(plan, time)
    if not least <= amount <= greatest:
        raise InvalidNumber("no row has this sum at the time")
