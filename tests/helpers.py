"""What the tests share: plans to try, objects of every kind, and answers found by trying."""

from itertools import product

from evenbits.plans import Plan

GREAT = 10 ** 30 - 1

# Those of any_objects() that are lists of integers.
WHOLE_LISTS = ([1], [1, 2], [1, 2, 3, 4])


class Numbers:
    """A fixed sequence of numbers, the same in every run."""

    def __init__(self, seed):
        self.state = seed

    def between(self, least, most):
        self.state = (self.state * 6364136223846793005 + 1442695040888963407) % 2 ** 64
        return least + (self.state >> 20) % (most - least + 1)

    def listed(self, many, least, most):
        return [self.between(least, most) for _ in range(many)]


def lists_of(plan):
    return plan.low, plan.high, plan.least, plan.most


def any_objects():
    """Objects of every kind of "any object"; none of them is a list of 3 integers."""
    deep = [1]
    for _ in range(19):
        deep = [deep]
    return [0, 1, -7, GREAT, True, False, "", "1 2 3", "low", None, Plan([3], [3], [0], [5]),
            (), (1,), (1, 2, 3), {}, {"a": 1}, {"low": [1, 2, 3]}, [], [1], [1, 2], [1, 2, 3, 4], [[1, 2, 3]],
            [True, 2, 3], [1, 2, False], [1, "2", 3], [1, None, 3], [1, 2, [3]], [(1, 2, 3)], [1, 2, {"a": 3}],
            [1, 2, Plan([3], [3], [0], [5])], deep, [0] * 201, [0] * 4000, [None] * 3, ["1", "2", "3"]]


def fits(plan, row):
    """Whether a list of n integers keeps all bounds, entry after entry."""
    total = 0
    for entry, low, high, least, most in zip(row, *lists_of(plan), strict=True):
        total += entry
        if not (least <= entry <= most and low <= total <= high):
            return False
    return True


def all_rows(plan):
    """All rows, ascending, by trying every list of entries within their bounds."""
    tried = product(*[range(least, most + 1) for least, most in zip(plan.least, plan.most)])
    return [list(row) for row in tried if fits(plan, row)]


def all_sums(row):
    return [sum(row[:time]) for time in range(1, len(row) + 1)]


def broken_pairs(plan):
    """All pairs (s, t) that break one of the two conditions of R1, ascending."""
    low, high = [0] + plan.low, [0] + plan.high
    found = []
    for s in range(len(plan)):
        slow = fast = 0
        for t in range(s + 1, len(plan) + 1):
            slow, fast = slow + plan.least[t - 1], fast + plan.most[t - 1]
            if low[t] - high[s] > fast or low[s] + slow > high[t]:
                found.append((s, t))
    return found


def some_plan(numbers, times, size):
    """A plan with small bounds; about every second one has no row."""
    least = numbers.listed(times, -size, size)
    most = [bound + numbers.between(0, size) for bound in least]
    low, total = [], 0
    for time in range(times):
        total += numbers.between(least[time] - 1, most[time] + 1)
        low.append(total)
    high = [bound + numbers.between(0, size) for bound in low[:-1]] + low[-1:]
    return Plan(low, high, least, most)


def small_plans(seed=5, many=250):
    """Plans of 1 to 5 times whose rows can all be tried."""
    numbers = Numbers(seed)
    return [some_plan(numbers, 1 + number % 5, 3) for number in range(many)]


def tiny_plans():
    """All plans of 1 or 2 times with bounds in a few numbers."""
    pairs = [(-1, -1), (-1, 1), (0, 0), (0, 2), (1, 1), (2, 3)]
    found = [Plan([total], [total], [least], [most]) for total in range(-2, 4) for least, most in pairs]
    for (low, high), total, (first, second), (third, fourth) in product(pairs, (-1, 0, 2, 5), pairs, pairs):
        found.append(Plan([low, total], [high, total], [first, third], [second, fourth]))
    return found


def great_plan(seed, times=200, slack=GREAT // 400, size=GREAT // 400):
    """A plan of many times and great numbers that has at least the row that it is made around."""
    numbers = Numbers(seed)
    # One number of the sequence has 44 bits: the rest of the digits comes from a great factor.
    row = [numbers.between(-2 ** 40, 2 ** 40) * size // 2 ** 40 for _ in range(times)]
    sums = all_sums(row)
    widths = [[numbers.between(0, 2 ** 40) * slack // 2 ** 40 for _ in range(times)] for _ in range(4)]
    low = [bound - width for bound, width in zip(sums[:-1], widths[0])] + sums[-1:]
    high = [bound + width for bound, width in zip(sums[:-1], widths[1])] + sums[-1:]
    least = [bound - width for bound, width in zip(row, widths[2])]
    most = [bound + width for bound, width in zip(row, widths[3])]
    return Plan(low, high, least, most), row
