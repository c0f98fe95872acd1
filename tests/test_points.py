"""Points 3, 4 (R1, R2) and 12: rows through a sum at a time, and what they cost."""

import unittest

from evenbits import points
from evenbits.best import best_row, latest_row
from evenbits.errors import InvalidNumber, InvalidPrice, InvalidTime
from evenbits.judges import compare
from evenbits.plans import Plan
from evenbits.points import cost_through, slope, through
from evenbits.prices import cost_of, least_cost
from evenbits.rows import sum_range
from helpers import (
    GREAT, Numbers, all_rows, all_sums, best_by_swaps, check_no_row, cost_by, drawn_price, few_times_plans, fits,
    lists_of, made_plan, many_times_plans, no_prices, rowless_plans, walked_swaps)


def plan_of_four():
    return Plan([0, 0, 0, 8], [9, 9, 9, 8], [0, 0, 0, 0], [9, 9, 9, 9])


def tops_of(part):
    row = sorted(part, reverse=True)
    return [sum(row[:many]) for many in range(len(row) + 1)]


def evenest(parts):
    """The sorted entries of the parts that are evener or as even as all of them."""
    found = [part for part in parts
             if all(one <= two for other in parts for one, two in zip(tops_of(part), tops_of(other)))]
    return sorted(found[0])


def through_by_trying(rows, time):
    """Of rows with one sum at a time: the one whose halves are evenest that has the greatest sums."""
    before = evenest([row[:time] for row in rows])
    behind = evenest([row[time:] for row in rows]) if time < len(rows[0]) else []
    both = [row for row in rows if sorted(row[:time]) == before and sorted(row[time:]) == behind]
    fullest_one = max(both, key=all_sums)
    assert all(one >= two for row in both for one, two in zip(all_sums(fullest_one), all_sums(row)))
    return fullest_one


def rows_by_sum(plan):
    """For each time the dict of all rows by their sum there."""
    told = {}
    for row in all_rows(plan):
        for time, amount in enumerate(all_sums(row), start=1):
            told.setdefault((time, amount), []).append(row)
    return told


def tried_amounts(plan, time):
    """Some of the sums that rows have at a time: the least ones, the greatest ones, and those of best rows."""
    least, greatest = sum_range(plan, time)
    sums = [all_sums(row)[time - 1] for row in (latest_row(plan), best_row(plan))]
    near = [least, least + 1, least + 2, (least + greatest) // 2, greatest - 1, greatest]
    near += [amount + by for amount in sums for by in (-2, -1, 0, 1)]
    return sorted({amount for amount in near if least <= amount <= greatest})


def great_plans():
    """Plans of 1 to 30 times with numbers of up to 24 digits, and three of up to 121 times."""
    numbers = Numbers(121)
    found = [made_plan(numbers, numbers.between(1, 30), size, slack, reach)
             for size in (4, 10 ** 23) for slack in (3, size, 4 * size) for reach in (2, size)]
    found.append(Plan([10 ** 24], [10 ** 24], [-10 ** 24], [10 ** 24]))
    return found + [made_plan(numbers, times, size, slack, size)
                    for times, size, slack in ((60, 5, 15), (95, 10 ** 20, 10 ** 20), (121, 10 ** 23, 10 ** 24))]


class ExamplesTest(unittest.TestCase):

    def test_through(self):
        plan = plan_of_four()
        self.assertEqual(through(plan, 2, 4), [2, 2, 2, 2])
        self.assertEqual(through(plan, 2, 5), [3, 2, 2, 1])
        self.assertEqual(through(plan, 1, 8), [8, 0, 0, 0])
        self.assertEqual(through(plan, 1, 0), [0, 3, 3, 2])
        self.assertEqual(through(plan, 3, 1), [1, 0, 0, 7])
        self.assertEqual(through(plan, 4, 8), [2, 2, 2, 2])

    def test_cost_and_slope(self):
        plan, price = plan_of_four(), (0, [(0, 1), (1, 2), (2, 2), (3, 2), (4, 2), (5, 2), (6, 2), (7, 2)])
        self.assertEqual([cost_through(plan, price, 2, amount) for amount in range(9)],
                         [32, 26, 20, 18, 16, 18, 20, 26, 32])
        self.assertEqual([slope(plan, price, 2, amount) for amount in range(8)], [-6, -6, -2, -2, 2, 2, 6, 6])
        self.assertEqual(cost_through(plan, price, 4, 8), 16)

    def test_by_name(self):
        plan, price = plan_of_four(), (1, [(2, 1)])
        self.assertEqual(through(amount=5, time=2, plan=plan), [3, 2, 2, 1])
        self.assertEqual(cost_through(amount=5, time=2, price=price, plan=plan), 9)
        self.assertEqual(slope(amount=5, time=2, price=price, plan=plan), 1)

    def test_halves_may_be_less_even_than_all(self):
        plan = Plan([0, 0, 0, 6], [9, 9, 9, 6], [0, 0, 0, 0], [9, 9, 9, 9])
        self.assertEqual(through(plan, 2, 0), [0, 0, 3, 3])
        self.assertEqual(through(plan, 2, 1), [1, 0, 3, 2])

    def test_one_time(self):
        plan = Plan([-3], [-3], [-9], [9])
        self.assertEqual(through(plan, 1, -3), [-3])
        self.assertEqual(cost_through(plan, (2, [(-4, 5)]), 1, -3), -21)
        for amount in (-4, -2, 0):
            with self.assertRaises(InvalidNumber):
                through(plan, 1, amount)
        with self.assertRaises(InvalidNumber):
            slope(plan, (0, []), 1, -3)


class ByTryingTest(unittest.TestCase):

    def test_every_sum_of_small_plans(self):
        for plan in few_times_plans():
            for (time, amount), rows in rows_by_sum(plan).items():
                self.assertEqual(through(plan, time, amount), through_by_trying(rows, time))

    def test_costs_and_slopes_of_small_plans(self):
        numbers = Numbers(122)
        for plan in few_times_plans():
            told = rows_by_sum(plan)
            price = drawn_price(numbers, numbers.between(0, 12), 5)
            costs = {point: min(cost_by(row, price) for row in rows) for point, rows in told.items()}
            for (time, amount), cost in costs.items():
                self.assertEqual(cost_through(plan, price, time, amount), cost)
                if (time, amount + 1) in costs:
                    self.assertEqual(slope(plan, price, time, amount), costs[time, amount + 1] - cost)
                else:
                    with self.assertRaises(InvalidNumber):
                        slope(plan, price, time, amount)

    def test_sums_that_no_row_has(self):
        for plan in few_times_plans()[::3]:
            told = rows_by_sum(plan)
            for time in range(1, len(plan) + 1):
                sums = [amount for at, amount in told if at == time]
                for amount in (min(sums) - 1, min(sums) - 2, max(sums) + 1, max(sums) + 2, GREAT, -GREAT):
                    for call in (lambda: through(plan, time, amount), lambda: slope(plan, (0, []), time, amount),
                                 lambda: cost_through(plan, (0, []), time, amount)):
                        with self.assertRaises(InvalidNumber):
                            call()


class ManyTimesTest(unittest.TestCase):

    def test_no_swap_within_a_half_evens(self):
        for plan in great_plans():
            for time in range(1, len(plan) + 1, 1 + len(plan) // 6):
                for amount in tried_amounts(plan, time):
                    row = through(plan, time, amount)
                    self.assertTrue(fits(plan, row))
                    self.assertEqual(all_sums(row)[time - 1], amount)
                    for p, q in walked_swaps(plan, row):
                        self.assertNotEqual(p <= time, q <= time)

    def test_greatest_sums(self):
        """No swap within a half that changes nothing but the sequence makes its sums greater."""
        for plan in great_plans()[::2]:
            for time in range(1, len(plan) + 1, 1 + len(plan) // 4):
                for amount in tried_amounts(plan, time)[::3]:
                    row = through(plan, time, amount)
                    for p, q in walked_swaps(plan, row, 1):
                        self.assertFalse(q < p and (p <= time) == (q <= time))

    def test_slopes_never_fall(self):
        numbers = Numbers(123)
        for plan in great_plans()[:-2]:
            price = drawn_price(numbers, 6, max(plan.most) - min(plan.least))
            for time in range(1, len(plan), 1 + len(plan) // 3):
                amounts = [amount for amount in tried_amounts(plan, time) if amount < sum_range(plan, time)[1]]
                costs = {amount + by: cost_through(plan, price, time, amount + by)
                         for amount in amounts for by in (0, 1)}
                slopes = [slope(plan, price, time, amount) for amount in amounts]
                self.assertEqual(slopes, [costs[amount + 1] - costs[amount] for amount in amounts])
                self.assertEqual(slopes, sorted(slopes))

    def test_cost_is_that_of_the_row_and_least_between_best_rows(self):
        numbers = Numbers(124)
        for plan in great_plans():
            price = drawn_price(numbers, 9, max(plan.most) - min(plan.least))
            least = least_cost(plan, price)
            last, first = all_sums(latest_row(plan)), all_sums(best_row(plan))
            for time in range(1, len(plan) + 1, 1 + len(plan) // 4):
                for amount in tried_amounts(plan, time):
                    cost = cost_through(plan, price, time, amount)
                    self.assertEqual(cost, cost_of(through(plan, time, amount), price))
                    self.assertGreaterEqual(cost, least)
                    if last[time - 1] <= amount <= first[time - 1]:
                        self.assertEqual(cost, least)

    def test_through_the_sums_of_best_rows(self):
        for plan in few_times_plans()[::4]:
            best = best_by_swaps(plan)
            for row in best:
                for time, amount in enumerate(all_sums(row), start=1):
                    self.assertIn(through(plan, time, amount), best)
        for plan in great_plans() + many_times_plans()[::3]:
            first, last = best_row(plan), latest_row(plan)
            for time in range(1, len(plan) + 1, 1 + len(plan) // 3):
                self.assertEqual(through(plan, time, all_sums(first)[time - 1]), first)
                row = through(plan, time, all_sums(last)[time - 1])
                self.assertEqual(compare(row, first), "same")


class ErrorsTest(unittest.TestCase):

    def test_wrong_times(self):
        for time in (0, -1, 5, GREAT, -GREAT, True, None, "1"):
            for amount in (0, GREAT, None):
                with self.assertRaises(InvalidTime):
                    through(plan_of_four(), time, amount)
                for call in (cost_through, slope):
                    with self.assertRaises(InvalidTime):
                        call(plan_of_four(), (0, []), time, amount)

    def test_wrong_prices_come_first(self):
        for price in no_prices():
            for time, amount in ((2, 4), (0, 4), (2, GREAT), (None, None)):
                for call in (cost_through, slope):
                    with self.assertRaises(InvalidPrice, msg=repr(price)[:100]):
                        call(plan_of_four(), price, time, amount)

    def test_wrong_amounts(self):
        for amount in (-1, 9, GREAT, -GREAT, False, None, "4", [4]):
            with self.assertRaises(InvalidNumber):
                through(plan_of_four(), 2, amount)
            for call in (cost_through, slope):
                with self.assertRaises(InvalidNumber):
                    call(plan_of_four(), (0, []), 2, amount)
        self.assertEqual(slope(plan_of_four(), (3, []), 2, 7), 0)
        with self.assertRaises(InvalidNumber):
            slope(plan_of_four(), (3, []), 2, 8)

    def test_plans_without_rows(self):
        price = (0, [(1, 1)])
        for plan in rowless_plans():
            for time in (1, len(plan)):
                for amount in (0, 1, GREAT, -GREAT, plan.total):
                    check_no_row(self, plan, through, time, amount)
                    check_no_row(self, plan, cost_through, price, time, amount)
                    check_no_row(self, plan, slope, price, time, amount)

    def test_other_errors_come_before_the_rows(self):
        for plan in rowless_plans()[::5]:
            for time in (0, len(plan) + 1):
                for call in (lambda: through(plan, time, 0), lambda: cost_through(plan, (0, []), time, 0),
                             lambda: slope(plan, (0, []), time, 0)):
                    with self.assertRaises(InvalidTime):
                        call()
            for call in (cost_through, slope):
                with self.assertRaises(InvalidPrice):
                    call(plan, (0, [(1, 0)]), 0, 0)


class GeneralTest(unittest.TestCase):

    def test_arguments_stay_and_lists_are_new(self):
        plan, price = plan_of_four(), (0, [(1, 1), (2, 3)])
        told = through(plan, 2, 5)
        cost_through(plan, price, 2, 5), slope(plan, price, 2, 5)
        told.append(None)
        self.assertEqual(through(plan, 2, 5), [3, 2, 2, 1])
        self.assertEqual((lists_of(plan), price), (lists_of(plan_of_four()), (0, [(1, 1), (2, 3)])))

    def test_defined_in_the_file(self):
        for call in (through, cost_through, slope):
            self.assertEqual(call.__module__, "evenbits.points")
            self.assertIs(getattr(points, call.__name__), call)


if __name__ == "__main__":
    unittest.main()
