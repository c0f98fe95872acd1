"""Counts and numbers of best rows, and the best row that is nearest to a row."""

from evenbits.best import plan_of_best
from evenbits.common import is_between, is_whole
from evenbits.errors import InvalidIndex, InvalidNumber, InvalidRow, InvalidTime
from evenbits.plans import Plan
from evenbits.rows import check_row, is_row, sum_range, sum_ranges, sums_of


def count_best(plan):
    """How many best rows there are."""
    return _count_rows(plan_of_best(plan))


def nth_best(plan, index):
    """The best row with an index, counted from 0, in the ascending sequence of all best rows."""
    reach = _reach_of(plan_of_best(plan))
    ways = _ways_on(reach)
    if not is_between(index, 0, ways[0][0] - 1):
        raise InvalidIndex("there is no best row with this index")
    row, amount = [], 0
    for time in range(len(plan)):
        for after in _next_sums(reach, time, amount):
            if index < ways[time + 1][after]:
                row.append(after - amount)
                amount = after
                break
            index -= ways[time + 1][after]
    return row


def best_index(plan, row):
    """The index of a best row in the ascending sequence of all best rows."""
    narrow = plan_of_best(plan)
    if not is_row(narrow, row):
        raise InvalidRow("this is no best row of the plan")
    reach = _reach_of(narrow)
    ways, sums = _ways_on(reach), [0] + sums_of(row)
    lesser = [[ways[time + 1][after] for after in _next_sums(reach, time, sums[time]) if after < sums[time + 1]]
              for time in range(len(plan))]
    return sum([sum(counts) for counts in lesser])


def count_through(plan, time, amount):
    """How many best rows have a sum at a time from 0 to n."""
    if not is_between(time, 0, len(plan)):
        raise InvalidTime("a time from 0 to n is asked for")
    if not is_whole(amount):
        raise InvalidNumber("a sum is an integer")
    narrow = plan_of_best(plan)
    least, greatest = sum_range(narrow, time)
    if not least <= amount <= greatest:
        return 0
    low, high = narrow.low, narrow.high
    if time > 0:
        low[time - 1] = high[time - 1] = amount
    return _count_rows(Plan(low, high, narrow.least, narrow.most))


def nearest_best(plan, row):
    """How far the sums of a row are from those of the nearest best row, and the fullest one that is so near."""
    check_row(plan, row)
    reach, sums = _reach_of(plan_of_best(plan)), sums_of(row)
    distances = _distances_on(reach, sums)
    nearest, amount = [], 0
    for time in range(len(plan)):
        before = amount
        choices = [(abs(after - sums[time]) + distances[time + 1][after], -after)
                   for after in _next_sums(reach, time, before)]
        # The least pair has the least distance, and of several such ones the greatest sum.
        amount = -min(choices)[1]
        nearest.append(amount - before)
    return distances[0][0], nearest


def _count_rows(narrow):
    """How many rows a plan has whose bounds are narrow; it has at least one."""
    return _ways_on(_reach_of(narrow))[0][0]


def _reach_of(narrow):
    """The least and the greatest sums at the times 0 to n, and the bounds of the entries."""
    floor, ceiling = sum_ranges(narrow)
    return floor, ceiling, narrow.least, narrow.most


def _next_sums(reach, time, amount):
    """The sums that rows with a sum at a time have at the next time, ascending."""
    floor, ceiling, least, most = reach
    first = max(floor[time + 1], amount + least[time])
    last = min(ceiling[time + 1], amount + most[time])
    return list(range(first, last + 1))


def _ways_on(reach):
    """For the times 0 to n, by the sum there: in how many ways rows go on from it."""
    floor, ceiling, least, _ = reach
    ways = [{floor[-1]: 1}]
    for time in range(len(least) - 1, -1, -1):
        behind = ways[-1]
        ways.append({amount: sum([behind[after] for after in _next_sums(reach, time, amount)])
                     for amount in range(floor[time], ceiling[time] + 1)})
    return ways[::-1]


def _distances_on(reach, sums):
    """For the times 0 to n, by the sum there: the least distance to the sums of a row from there on."""
    floor, ceiling, least, _ = reach
    distances = [{floor[-1]: 0}]
    for time in range(len(least) - 1, -1, -1):
        behind = distances[-1]
        distances.append({amount: min([abs(after - sums[time]) + behind[after]
                                       for after in _next_sums(reach, time, amount)])
                          for amount in range(floor[time], ceiling[time] + 1)})
    return distances[::-1]
