"""Prices of entries, what rows cost, and how much of them lies above and below a rate."""

from evenbits.best import best_entries, inside_at
from evenbits.common import entries_at, is_between, is_whole, is_whole_list, is_whole_tuple, runs_of
from evenbits.errors import InvalidNumber, InvalidPrice, InvalidRow, InvalidTime
from evenbits.rows import check_row, check_rows

MOST_CORNERS = 12


def is_price(thing):
    """Whether any object is a price (slope, corners)."""
    if not isinstance(thing, tuple) or len(thing) != 2:
        return False
    slope, corners = thing
    if not is_whole(slope) or not isinstance(corners, list) or len(corners) > MOST_CORNERS:
        return False
    if not all([is_whole_tuple(corner, 2) for corner in corners]):
        return False
    ascends = all([value < behind for (value, _), (behind, _) in zip(corners, corners[1:])])
    return ascends and all([more >= 1 for _, more in corners])


def check_price(price):
    """Raises InvalidPrice if an object is no price."""
    if not is_price(price):
        raise InvalidPrice("a price is a tuple of a slope and a list of at most 12 ascending corners")


def price_at(price, value):
    """The price of an entry."""
    check_price(price)
    if not is_whole(value):
        raise InvalidNumber("an entry is an integer")
    return _price_of(price, value)


def cost_of(row, price):
    """The sum of the prices of the entries of a list."""
    if not is_whole_list(row):
        raise InvalidRow("a row is a list of 1 to 200 integers")
    check_price(price)
    return sum([_price_of(price, entry) for entry in row])


def least_cost(plan, price):
    """The cost of the best rows, which is the least of all rows."""
    check_price(price)
    return cost_of(best_entries(plan), price)


def excess(plan, rate):
    """The least sum, over all rows, of what the entries are above a rate."""
    return bound_by(plan, rate, excess_paper(plan, rate))


def shortfall(plan, rate):
    """The least sum, over all rows, of what the entries are below a rate."""
    # For each entry, what it is below the rate is what it is above it, less the entry, and the rate more.
    return excess(plan, rate) - plan.total + rate * len(plan)


def excess_paper(plan, rate):
    """Pairs (s, t) of times that show that no row has less above the rate than the best rows."""
    _check_rate(rate)
    check_rows(plan)
    return [(first, last) for first, last, within in runs_of(inside_at(plan, rate)) if within]


def bound_by(plan, rate, pairs):
    """What each row has above the rate at least, by a list of pairs (s, t) of times: the right side of R3."""
    _check_rate(rate)
    if not _are_pairs(plan, pairs):
        raise InvalidTime("pairs of times from 0 to n are asked for, in sequence")
    low, high = [0] + plan.low, [0] + plan.high
    entries = entries_at(plan, rate)
    above = sum([max(0, bound - rate) for bound in plan.least])
    return above + sum([low[t] - high[s] - sum(entries[s:t]) for s, t in pairs])


def tops(plan, number):
    """The sum of so many greatest entries of a best row."""
    if not is_between(number, 0, len(plan)):
        raise InvalidNumber("a number from 0 to n is asked for")
    return sum(best_entries(plan)[len(plan) - number:])


def telling_rate(plan, row):
    """The least rate above which a row of the plan has more than the best rows have, or None for a best row."""
    check_row(plan, row)
    for entry, best in zip(sorted(row), best_entries(plan)):
        # Up to this entry both have as much below each rate; one above it, the row has more there.
        if entry != best:
            return entry + 1
    return None


def _price_of(price, value):
    """The price of an entry, where the price is known to be one."""
    slope, corners = price
    above = [more * (max(0, value - corner) - max(0, -corner)) for corner, more in corners]
    return slope * value + sum(above)


def _check_rate(rate):
    """Raises InvalidNumber if an object is no integer."""
    if not is_whole(rate):
        raise InvalidNumber("a rate is an integer")


def _are_pairs(plan, pairs):
    """Whether an object is a list of pairs (s, t) with s_1 < t_1 <= s_2 < t_2 .. from 0 to n."""
    if not isinstance(pairs, list) or not all([is_whole_tuple(pair, 2) for pair in pairs]):
        return False
    before = 0
    for s, t in pairs:
        if not before <= s < t <= len(plan):
            return False
        before = t
    return True
