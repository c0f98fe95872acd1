"""What the tests share: plans to try, objects of every kind, and answers found by trying."""

from itertools import combinations, product

from evenbits.errors import NoRow
from evenbits.plans import Plan

GREAT = 10 ** 30 - 1

# Those of any_objects() that are lists of integers.
WHOLE_LISTS = ([1], [1, 2], [1, 2, 3, 4])


class Numbers:
    """A fixed sequence of numbers, the same in every run."""

    def __init__(self, seed):
        self.state = seed

    def between(self, least, most):
        self.state = (self.state * 6364136223846793005 + 1442695040888963407) % 2 ** 64
        return least + (self.state >> 20) % (most - least + 1)

    def wide(self, least, most):
        """Like between, also for numbers of many digits."""
        drawn = 0
        for _ in range(4):
            drawn = drawn * 2 ** 44 + self.between(0, 2 ** 44 - 1)
        return least + drawn % (most - least + 1)

    def listed(self, many, least, most):
        return [self.between(least, most) for _ in range(many)]

    def one_of(self, things):
        return things[self.between(0, len(things) - 1)]


def lists_of(plan):
    return plan.low, plan.high, plan.least, plan.most


def any_objects():
    """Objects of every kind of "any object"; none of them is a list of 3 integers."""
    deep = [1]
    for _ in range(19):
        deep = [deep]
    return [0, 1, -7, GREAT, True, False, "", "1 2 3", "low", None, Plan([3], [3], [0], [5]),
            (), (1,), (1, 2, 3), {}, {"a": 1}, {"low": [1, 2, 3]}, [], [1], [1, 2], [1, 2, 3, 4], [[1, 2, 3]],
            [True, 2, 3], [1, 2, False], [1, "2", 3], [1, None, 3], [1, 2, [3]], [(1, 2, 3)], [1, 2, {"a": 3}],
            [1, 2, Plan([3], [3], [0], [5])], deep, [0] * 201, [0] * 4000, [None] * 3, ["1", "2", "3"]]


def fits(plan, row):
    """Whether a list of n integers keeps all bounds, entry after entry."""
    total = 0
    for entry, low, high, least, most in zip(row, *lists_of(plan), strict=True):
        total += entry
        if not (least <= entry <= most and low <= total <= high):
            return False
    return True


def all_rows(plan):
    """All rows, ascending, by trying every list of entries within their bounds."""
    tried = product(*[range(least, most + 1) for least, most in zip(plan.least, plan.most)])
    return [list(row) for row in tried if fits(plan, row)]


def all_sums(row):
    return [sum(row[:time]) for time in range(1, len(row) + 1)]


def broken_pairs(plan):
    """All pairs (s, t) that break one of the two conditions of R1, ascending."""
    low, high = [0] + plan.low, [0] + plan.high
    found = []
    for s in range(len(plan)):
        slow = fast = 0
        for t in range(s + 1, len(plan) + 1):
            slow, fast = slow + plan.least[t - 1], fast + plan.most[t - 1]
            if low[t] - high[s] > fast or low[s] + slow > high[t]:
                found.append((s, t))
    return found


def some_plan(numbers, times, size):
    """A plan with small bounds; about every second one has no row."""
    least = numbers.listed(times, -size, size)
    most = [bound + numbers.between(0, size) for bound in least]
    low, total = [], 0
    for time in range(times):
        total += numbers.between(least[time] - 1, most[time] + 1)
        low.append(total)
    high = [bound + numbers.between(0, size) for bound in low[:-1]] + low[-1:]
    return Plan(low, high, least, most)


def small_plans(seed=5, many=250):
    """Plans of 1 to 5 times whose rows can all be tried."""
    numbers = Numbers(seed)
    return [some_plan(numbers, 1 + number % 5, 3) for number in range(many)]


def tiny_plans():
    """All plans of 1 or 2 times with bounds in a few numbers."""
    pairs = [(-1, -1), (-1, 1), (0, 0), (0, 2), (1, 1), (2, 3)]
    found = [Plan([total], [total], [least], [most]) for total in range(-2, 4) for least, most in pairs]
    for (low, high), total, (first, second), (third, fourth) in product(pairs, (-1, 0, 2, 5), pairs, pairs):
        found.append(Plan([low, total], [high, total], [first, third], [second, fourth]))
    return found


def great_plan(seed, times=200, slack=GREAT // 400, size=GREAT // 400):
    """A plan of many times and great numbers that has at least the row that it is made around."""
    numbers = Numbers(seed)
    # One number of the sequence has 44 bits: the rest of the digits comes from a great factor.
    row = [numbers.between(-2 ** 40, 2 ** 40) * size // 2 ** 40 for _ in range(times)]
    sums = all_sums(row)
    widths = [[numbers.between(0, 2 ** 40) * slack // 2 ** 40 for _ in range(times)] for _ in range(4)]
    low = [bound - width for bound, width in zip(sums[:-1], widths[0])] + sums[-1:]
    high = [bound + width for bound, width in zip(sums[:-1], widths[1])] + sums[-1:]
    least = [bound - width for bound, width in zip(row, widths[2])]
    most = [bound + width for bound, width in zip(row, widths[3])]
    return Plan(low, high, least, most), row


def one_swap(row, p, q):
    changed = list(row)
    changed[p - 1] -= 1
    changed[q - 1] += 1
    return changed


def tried_swaps(plan, row, gap=2):
    """All allowed swaps (p, q) with x_p >= x_q + gap, ascending, by trying each one."""
    times = range(1, len(row) + 1)
    return [(p, q) for p in times for q in times
            if p != q and row[p - 1] >= row[q - 1] + gap and fits(plan, one_swap(row, p, q))]


def walked_swaps(plan, row, gap=2):
    """The same ones for plans of many times: from each p as far to both sides as the sums let 1 be brought."""
    sums, found = all_sums(row), []
    for p in range(len(row)):
        if row[p] == plan.least[p]:
            continue
        reached, q = [], p
        while q > 0 and sums[q - 1] < plan.high[q - 1]:
            q -= 1
            reached.append(q)
        reached.reverse()
        q = p
        while q < len(row) - 1 and sums[q] > plan.low[q]:
            q += 1
            reached.append(q)
        found += [(p + 1, q + 1) for q in reached if row[p] >= row[q] + gap and row[q] < plan.most[q]]
    return found


def best_by_swaps(plan):
    """All best rows, ascending, by trying all swaps of all rows."""
    return [row for row in all_rows(plan) if not tried_swaps(plan, row)]


def above(row, rate):
    return sum(max(0, entry - rate) for entry in row)


def below(row, rate):
    return sum(max(0, rate - entry) for entry in row)


def made_plan(numbers, times, size, slack, reach):
    """A plan around a drawn row: entries up to size, bounds of sums and entries up to slack and reach from them."""
    row = [numbers.wide(-size, size) for _ in range(times)]
    sums = all_sums(row)
    low = [bound - numbers.wide(0, slack) for bound in sums[:-1]] + sums[-1:]
    high = [bound + numbers.wide(0, slack) for bound in sums[:-1]] + sums[-1:]
    least = [bound - numbers.wide(0, reach) for bound in row]
    most = [bound + numbers.wide(0, reach) for bound in row]
    return Plan(low, high, least, most)


def roomy_plans(seed=7, many=300):
    """Plans of 2 to 4 times with small numbers, many of them with several best rows."""
    numbers, found = Numbers(seed), []
    for number in range(many):
        times = 2 + number % 3
        middle = numbers.listed(times, -1, 1)
        least = [bound - numbers.between(0, 2) for bound in middle]
        most = [bound + numbers.between(0, 2) for bound in middle]
        sums = all_sums(middle)
        low = [bound - numbers.between(0, 4) for bound in sums]
        high = [bound + numbers.between(0, 4) for bound in sums]
        low[-1] = high[-1] = sums[-1] + numbers.between(-1, 1)
        found.append(Plan(low, high, least, most))
    return found


def few_times_plans():
    """Plans of 1 to 4 times that have rows, all of which can be tried."""
    tried = roomy_plans() + small_plans(41, 160) + tiny_plans()[::29]
    return [plan for plan in tried if len(plan) < 5 and all_rows(plan)]


def rowless_plans(seed=43):
    """Plans without rows: small ones, and ones of up to 40 times with one bound moved too far."""
    kept = [plan for plan in small_plans(seed, 60) + tiny_plans()[::17] if broken_pairs(plan)]
    numbers = Numbers(seed)
    for times in (6, 12, 25, 40):
        low, high, least, most = lists_of(made_plan(numbers, times, 10 ** 27, 10 ** 25, 10 ** 25))
        at = numbers.between(0, times - 2)
        low[at] = high[at] = high[at] + 10 ** 28
        kept.append(Plan(low, high, least, most))
    return kept


def many_times_plans(seed=11):
    """Plans of 5 to 40 times that have rows: small and great numbers, bounds near and far, own bounds near and far."""
    numbers = Numbers(seed)
    return [made_plan(numbers, numbers.between(5, 40), size, slack, reach)
            for size in (3, 40, 10 ** 27) for slack in (0, 2, size, 9 * size) for reach in (0, 1, size, 9 * size)]


def long_plans(seed=13):
    """Plans of 100 to 200 times: bursts behind a small reservoir, steps of a bound, entries below 0."""
    numbers = Numbers(seed)
    plans = []
    for times, buffer, burst in ((100, 30, 30), (150, 14, 12), (200, 70, 30)):
        taken = [numbers.between(burst // 2, burst) if numbers.between(0, 6) == 0 else numbers.between(0, 4)
                 for _ in range(times)]
        low = all_sums(taken)
        high = [min(low[-1], before + buffer) for before in [0] + low[:-1]]
        plans.append(Plan(low, high, [0] * times, [29] * times))
    steps = [40 * (time // 17) for time in range(1, 200)]
    plans.append(Plan([step - 35 for step in steps] + [450], [step + 9 for step in steps] + [450],
                      [-7] * 200, [5 + time % 9 for time in range(200)]))
    plans += [made_plan(numbers, times, 5, slack, 4) for times, slack in ((110, 3), (160, 15), (200, 70))]
    plans.append(plans[1].lifted(-9))
    plans.append(made_plan(numbers, 200, 10 ** 27, 10 ** 28, 10 ** 27))
    return plans


def band_plans(most_times, seed=17):
    """Plans with few bounds whose best rows walk within a narrow band, with the entry k or k + 1 at each time."""
    numbers = Numbers(seed)
    found = []
    for times, width in ((12, 3), (20, 2), (30, 4), (45, 2), (60, 5), (60, 60), (80, 3), (100, 6)):
        if times <= most_times:
            k, rest = numbers.between(-4, 4), numbers.between(1, times - 1)
            line = [k * time + rest * time // times for time in range(1, times)]
            total = k * times + rest
            low = [bound - numbers.between(width // 2, width) for bound in line] + [total]
            high = [bound + numbers.between(width // 2, width) for bound in line] + [total]
            found.append((Plan(low, high, [k - 9] * times, [k + 9] * times), k))
    return found


def count_walks(plan, k):
    """How many rows have the entry k or k + 1 at each time."""
    walks = {0: 1}
    for low, high in zip(plan.low, plan.high):
        behind = {}
        for amount, many in walks.items():
            for after in (amount + k, amount + k + 1):
                if low <= after <= high:
                    behind[after] = behind.get(after, 0) + many
        walks = behind
    return sum(walks.values())


def all_pairs(times):
    """All lists of pairs (s, t) with s_1 < t_1 <= s_2 < t_2 .. from 0 to a time."""
    pairs = list(combinations(range(times + 1), 2))
    found, ends = [[]], [[pair] for pair in pairs]
    while ends:
        found += ends
        ends = [told + [pair] for told in ends for pair in pairs if pair[0] >= told[-1][1]]
    return found


def drawn_price(numbers, corners, size):
    values = sorted({numbers.wide(-size, size) for _ in range(corners)})
    return numbers.wide(-size, size), [(value, numbers.wide(1, size)) for value in values]


def drawn_prices(numbers, size):
    return [drawn_price(numbers, corners, size) for corners in range(13)]


def no_prices():
    """Objects that are no prices."""
    thirteen = [(value, 1) for value in range(13)]
    return any_objects() + [
        (0,), (0, [], 0), [0, []], (0, ()), (0, ((1, 1),)), (0, [[1, 1]]), (0, [(1, 1), [2, 1]]), (0, thirteen),
        (0, [(1, 1), (1, 1)]), (0, [(2, 1), (1, 1)]), (0, [(1, 1), (3, 1), (2, 1)]), (0, [(1, 0)]), (0, [(1, -1)]),
        (0, [(1, 1), (2, 0)]), (0, [(1, -GREAT)]), (True, []), (None, []), ("0", []), (0, None), (0, "[]"), (0, {}),
        (0, [(True, 1)]), (0, [(1, True)]), (0, [(1,)]), (0, [(1, 1, 1)]), (0, [()]), (0, [1]), (0, [None]),
        (0, [("1", 1)]), (0, [(1, "1")]), (0, [(1, None)]), (0, [(0, True), (1, 1)]), ([], 0), (0, [(1, [1])]),
        (Plan([3], [3], [0], [5]), []), (0, Plan([3], [3], [0], [5])), (0, [(0, 1), (1, 1), (True, 1)])]


def cost_by(row, price):
    """What a list costs, by the words of the definition."""
    slope, corners = price
    return sum(slope * entry + sum(more * (max(0, entry - value) - max(0, -value)) for value, more in corners)
               for entry in row)


def check_no_row(test, plan, call, *rest):
    """The call raises NoRow with the least pair that breaks a condition of R1."""
    with test.assertRaises(NoRow) as caught:
        call(plan, *rest)
    test.assertEqual((caught.exception.first, caught.exception.last), min(broken_pairs(plan)))
