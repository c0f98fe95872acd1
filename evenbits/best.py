"""Best rows of a plan: no allowed swap evens them."""

from evenbits.common import entry_at, runs_of
from evenbits.plans import Plan
from evenbits.rows import check_rows, emptiest, fullest, sum_ranges


def best_row(plan):
    """The best row with the greatest sums."""
    return fullest(plan_of_best(plan))


def latest_row(plan):
    """The best row with the least sums."""
    return emptiest(plan_of_best(plan))


def best_entries(plan):
    """The sorted entries, which are the same in all best rows."""
    return sorted(best_row(plan))


def tied_times(plan):
    """The times between 0 and n at which all best rows have the same sum, ascending."""
    floor, ceiling = sum_ranges(plan_of_best(plan))
    return [time for time in range(1, len(plan)) if floor[time] == ceiling[time]]


def stretches(plan):
    """Tuples (first, last, lesser, greater): the ends of each stretch between ties, and how far its entries go."""
    ends = [0] + tied_times(plan) + [len(plan)]
    lesser, greater = _entry_ranges(plan)
    return [(first, last, min(lesser[first:last]), max(greater[first:last])) for first, last in zip(ends, ends[1:])]


def peak(plan):
    """The greatest entry of best rows."""
    return max(best_row(plan))


def dip(plan):
    """The least entry of best rows."""
    return min(best_row(plan))


def same_entries(plan):
    """The times whose entry is the same in all best rows, ascending."""
    lesser, greater = _entry_ranges(plan)
    return [time for time in range(1, len(plan) + 1) if lesser[time - 1] == greater[time - 1]]


def plan_of_best(plan):
    """The plan whose rows are the best rows of a plan; its bounds of an entry differ by 1 at most."""
    levels = levels_of(plan)
    low, high = plan.low, plan.high
    for at in range(len(plan) - 1):
        # Where the level rises, nothing more could have been sent before; where it falls, nothing less.
        if levels[at] < levels[at + 1]:
            low[at] = high[at]
        elif levels[at] > levels[at + 1]:
            high[at] = low[at]
    bounds = list(zip(plan.least, plan.most, levels))
    lesser = [entry_at(least, most, level) for least, most, level in bounds]
    greater = [entry_at(least, most, level + 1) for least, most, level in bounds]
    return Plan(low, high, lesser, greater)


def levels_of(plan):
    """A level for each time: the greatest rate at which the time is inside, or one below all bounds of entries.

    A row is best if and only if each entry is e_t(level) or e_t(level + 1), and its sum is the upper bound
    where the level rises, and the lower one where it falls: then the pairs of R3 are met at each rate.
    """
    check_rows(plan)
    bounds = ([0] + plan.low, [0] + plan.high, plan.least, plan.most)
    levels = [0] * len(plan)
    # With a greater rate no time comes inside, so each part is cut by rates until one level is left for it.
    parts = [(0, len(plan), False, False, min(plan.least) - 1, max(plan.most) - 1)]
    while parts:
        first, last, left, right, lowest, highest = parts.pop()
        if lowest == highest:
            levels[first:last] = [lowest] * (last - first)
            continue
        # A part that stays whole is outside just above the even rate, and inside at it: two cuts tell its level.
        part = (first, last, left, right)
        rate = min(highest, _even_rate(bounds, part, lowest) + 1)
        inside = _inside_part(bounds, part, rate)
        for begin, end, within in runs_of(inside):
            # Runs take turns: the neighbour of a run inside is outside, and the other way round.
            before = left if begin == 0 else not within
            behind = right if end == len(inside) else not within
            levels_left = (rate, highest) if within else (lowest, rate - 1)
            parts.append((first + begin, first + end, before, behind, *levels_left))
    return levels


def inside_at(plan, rate):
    """Whether each time is inside a pair, for the fewest times inside of pairs with equality in R3 at a rate."""
    bounds = ([0] + plan.low, [0] + plan.high, plan.least, plan.most)
    return _inside_part(bounds, (0, len(plan), False, False), rate)


def _even_rate(bounds, part, lowest):
    """The greatest rate at which a part is better all inside than all outside, or the lowest one if there is none."""
    low, high, least, most = bounds
    first, last, left, right = part
    # All inside is better as long as the entries at the rate add up to less than this.
    needed = (high[last] if right else low[last]) - (low[first] if left else high[first])
    amount, growing = sum(least[first:last]), 0
    if amount >= needed:
        return lowest
    turns = sorted([(bound, 1) for bound in least[first:last]] + [(bound, -1) for bound in most[first:last]])
    rate = turns[0][0]
    for turn, step in turns:
        # Up to the next bound the sum grows, with each rate, by as many entries as lie between their own bounds.
        reached = amount + growing * (turn - rate)
        if reached >= needed:
            break
        rate, amount, growing = turn, reached, growing + step
    return rate + (needed - amount - 1) // growing


def _inside_part(bounds, part, rate):
    """Whether each of the times first + 1 to last is inside, if the time before and the one behind are so or not.

    Times are chosen such that the right side of R3 is greatest, and of several choices the one with the fewest
    times inside, which is a part of all others.
    """
    low, high, least, most = bounds
    first, last, left, right = part
    entries = [entry_at(least[at], most[at], rate) for at in range(first, last)]
    # The greatest right sides so far, with the newest time outside and inside.
    outside, inside = (low[first], 0) if left else (0, -high[first])
    inside -= entries[0]
    came_from = []
    for time in range(first + 1, last):
        leaves, enters = inside + low[time], outside - high[time]
        came_from.append((leaves > outside, inside > enters))
        outside, inside = max(outside, leaves), max(inside, enters) - entries[time - first]
    within = inside > outside - high[last] if right else inside + low[last] > outside
    found = [within]
    for from_outside, from_inside in came_from[::-1]:
        found.append(from_inside if found[-1] else from_outside)
    return found[::-1]


def _entry_ranges(plan):
    """Two lists: the least and the greatest entry that any best row has at each time."""
    narrow = plan_of_best(plan)
    floor, ceiling = sum_ranges(narrow)
    lesser = [max(bound, after - before) for bound, before, after in zip(narrow.least, ceiling, floor[1:])]
    greater = [min(bound, after - before) for bound, before, after in zip(narrow.most, floor, ceiling[1:])]
    return lesser, greater
