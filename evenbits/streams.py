"""Streams that share one channel: their joint plan, what each one gets, and what sharing saves."""

from evenbits.best import best_row
from evenbits.common import is_at_most, is_whole_list
from evenbits.errors import InvalidNumber, InvalidRow, InvalidStreams
from evenbits.plans import Plan
from evenbits.prices import cost_of, least_cost
from evenbits.rows import entries_of, sums_of

MOST_STREAMS = 20


def joint(streams, least, most):
    """The plan of the sums of all streams, with bounds of the entries."""
    _check_streams(streams)
    low, high = _joint_bounds(streams)
    if not is_whole_list(least) or len(least) != len(low):
        raise InvalidNumber("least is a list of as many integers as there are times")
    if not is_whole_list(most) or len(most) != len(low) or not is_at_most(least, most):
        raise InvalidNumber("most is a list of as many integers, none of them below its one of least")
    return Plan(low, high, least, most)


def shares(streams, row):
    """Lists for the streams that add up to a row: each one's sums are as great as the ones before it leave them."""
    _check_streams(streams)
    low, high = _joint_bounds(streams)
    if not is_whole_list(row) or len(row) != len(low):
        raise InvalidRow("a row is a list of as many integers as there are times")
    left = sums_of(row)
    if not is_at_most(low, left) or not is_at_most(left, high):
        raise InvalidRow("the sums of a row lie within the bounds of all streams together")
    told = []
    for own_low, own_high in streams:
        # The streams behind this one get at least their lower bounds.
        low = [bound - own for bound, own in zip(low, own_low)]
        sums = [min(own, amount - bound) for own, amount, bound in zip(own_high, left, low)]
        left = [amount - own for amount, own in zip(left, sums)]
        told.append(entries_of([0] + sums))
    return told


def gain(streams, price):
    """What the best rows of the streams alone, added up, cost more than those of the joint plan."""
    _check_streams(streams)
    rows = [best_row(_free_plan(low, high)) for low, high in streams]
    low, high = _joint_bounds(streams)
    return cost_of(_added(rows), price) - least_cost(_free_plan(low, high), price)


def _check_streams(streams):
    """Raises InvalidStreams unless an object is a list of 1 to 20 streams of equally many times."""
    if not isinstance(streams, list) or not 1 <= len(streams) <= MOST_STREAMS:
        raise InvalidStreams("streams are a list of 1 to 20 tuples")
    if not all([_is_stream(stream) for stream in streams]):
        raise InvalidStreams("a stream is a tuple of two lists of bounds, whose last ones are equal")
    if any([len(low) != len(streams[0][0]) for low, _ in streams]):
        raise InvalidStreams("all streams have equally many times")


def _is_stream(thing):
    """Whether an object is a tuple (low, high) of the bounds of a stream."""
    if not isinstance(thing, tuple) or len(thing) != 2:
        return False
    low, high = thing
    if not is_whole_list(low) or not is_whole_list(high) or len(low) != len(high):
        return False
    return is_at_most(low, high) and low[-1] == high[-1]


def _joint_bounds(streams):
    """The sums of the lower and of the upper bounds of all streams."""
    return _added([low for low, _ in streams]), _added([high for _, high in streams])


def _added(rows):
    """The sums of the entries of lists at each place."""
    return [sum([row[at] for row in rows]) for at in range(len(rows[0]))]


def _free_plan(low, high):
    """The plan with bounds of the sums alone: those of the entries are so wide that they bar nothing."""
    least = [bound - before for bound, before in zip(low, [0] + high)]
    most = [bound - before for bound, before in zip(high, [0] + low)]
    return Plan(low, high, least, most)
