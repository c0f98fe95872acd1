"""Judges of rows: which swaps even them, how two compare, and papers that show that one is best."""

from evenbits.best import levels_of
from evenbits.common import entries_at, is_at_most, is_between, is_whole_list, is_whole_tuple, runs_of, sums_from_zero
from evenbits.errors import InvalidRow, InvalidTime
from evenbits.rows import check_row, sums_of


def is_best(plan, row):
    """Whether no allowed swap evens a row of the plan."""
    return evening_swap(plan, row) is None


def evening_swap(plan, row):
    """The least allowed swap (p, q) that evens a row of the plan, or None."""
    check_row(plan, row)
    least, most = plan.least, plan.most
    reach = _swap_reach(plan, sums_of(row))
    for p, (first, last) in enumerate(reach, start=1):
        if row[p - 1] > least[p - 1]:
            for q in range(first, last + 1):
                if row[p - 1] >= row[q - 1] + 2 and row[q - 1] < most[q - 1]:
                    return p, q
    return None


def swapped(row, p, q):
    """The list with 1 taken from the entry at p and added to the one at q."""
    if not is_whole_list(row):
        raise InvalidRow("a row is a list of 1 to 200 integers")
    if not is_between(p, 1, len(row)):
        raise InvalidTime("p is a time of the row")
    if not is_between(q, 1, len(row)) or q == p:
        raise InvalidTime("q is another time of the row")
    result = list(row)
    result[p - 1] -= 1
    result[q - 1] += 1
    return result


def compare(row, other):
    """How even a list of integers is beside another one: "same", "evener", "less even" or "none" of these."""
    if not is_whole_list(row):
        raise InvalidRow("a row is a list of 1 to 200 integers")
    if not is_whole_list(other) or len(other) != len(row) or sum(other) != sum(row):
        raise InvalidRow("two lists that are compared have the same length and total")
    tops = sums_from_zero(sorted(row, reverse=True))
    other_tops = sums_from_zero(sorted(other, reverse=True))
    if tops == other_tops:
        return "same"
    if is_at_most(tops, other_tops):
        return "evener"
    return "less even" if is_at_most(other_tops, tops) else "none"


def paper_of(plan):
    """A paper that holds for the best row with the greatest sums."""
    parts = runs_of(levels_of(plan))
    paper = []
    for (_, last, level), (_, _, level_behind) in zip(parts, parts[1:]):
        paper.append((last, level, "low" if level > level_behind else "high"))
    paper.append((len(plan), parts[-1][2], "end"))
    return paper


def shows_best(plan, row, thing):
    """Whether any object is a paper of a row of the plan that holds."""
    check_row(plan, row)
    return _is_paper(plan, thing) and _keeps_levels(plan, row, thing) and _turns_at_bounds(plan, row, thing)


def _swap_reach(plan, sums):
    """For each time p the first and the last time to which 1 can be brought from p, by the bounds of the sums."""
    low, high, times = plan.low, plan.high, len(sums)
    firsts, lasts = [1], [times]
    for time in range(2, times + 1):
        firsts.append(firsts[-1] if sums[time - 2] < high[time - 2] else time)
    for time in range(times - 1, 0, -1):
        lasts.append(lasts[-1] if sums[time - 1] > low[time - 1] else time)
    return list(zip(firsts, lasts[::-1]))


def _is_paper(plan, thing):
    """Whether an object has the form of a paper."""
    if not isinstance(thing, list) or len(thing) == 0:
        return False
    before = 0
    for at, part in enumerate(thing, start=1):
        if not isinstance(part, tuple) or len(part) != 3 or not is_whole_tuple(part[:2], 2):
            return False
        last, _, side = part
        is_final = at == len(thing)
        sides = ("end",) if is_final else ("low", "high")
        if side not in sides or not before < last <= len(plan) or is_final != (last == len(plan)):
            return False
        before = last
    return True


def _keeps_levels(plan, row, paper):
    """Whether each entry is one of the two at the level of its part."""
    first = 0
    for last, level, _ in paper:
        lesser, greater = entries_at(plan, level), entries_at(plan, level + 1)
        if not all([row[at] in (lesser[at], greater[at]) for at in range(first, last)]):
            return False
        first = last
    return True


def _turns_at_bounds(plan, row, paper):
    """Whether the level falls only where the sum is the lower bound, and rises only where it is the upper one."""
    low, high, sums = plan.low, plan.high, sums_of(row)
    for (last, level, side), (_, level_behind, _) in zip(paper, paper[1:]):
        if side == "low":
            holds = sums[last - 1] == low[last - 1] and level >= level_behind
        else:
            holds = sums[last - 1] == high[last - 1] and level <= level_behind
        if not holds:
            return False
    return True
