"""Point 10: counts and numbers of best rows, and the nearest one."""

import unittest

from evenbits import counts
from evenbits.best import best_entries, best_row, latest_row, tied_times
from evenbits.counts import best_index, count_best, count_through, nearest_best, nth_best
from evenbits.errors import InvalidIndex, InvalidNumber, InvalidRow, InvalidTime
from evenbits.judges import is_best
from evenbits.plans import Plan
from evenbits.rows import emptiest, fullest, is_row
from helpers import (
    GREAT, Numbers, all_rows, all_sums, any_objects, band_plans, best_by_swaps, check_no_row, count_walks,
    few_times_plans, fits, lists_of, many_times_plans, rowless_plans)


def plan_of_four():
    return Plan([0, 0, 0, 6], [6, 6, 6, 6], [0, 0, 0, 0], [9, 9, 9, 9])


def distance(row, other):
    return sum(abs(one - two) for one, two in zip(all_sums(row), all_sums(other)))


def nearest_of(row, rows):
    """The least distance, and of the rows that have it the one with the greatest sums."""
    least = min(distance(row, other) for other in rows)
    near = [other for other in rows if distance(row, other) == least]
    fullest_one = max(near, key=all_sums)
    assert all(one >= two for other in near for one, two in zip(all_sums(fullest_one), all_sums(other)))
    return least, fullest_one


class ExamplesTest(unittest.TestCase):

    def test_six_best_rows(self):
        plan = plan_of_four()
        rows = [[1, 1, 2, 2], [1, 2, 1, 2], [1, 2, 2, 1], [2, 1, 1, 2], [2, 1, 2, 1], [2, 2, 1, 1]]
        self.assertEqual(count_best(plan), 6)
        self.assertEqual([nth_best(plan, index) for index in range(6)], rows)
        self.assertEqual([best_index(plan, row) for row in rows], list(range(6)))
        self.assertEqual([count_through(plan, 2, amount) for amount in range(6)], [0, 0, 1, 4, 1, 0])
        self.assertEqual(nearest_best(plan, [0, 6, 0, 0]), (5, [2, 2, 1, 1]))
        self.assertEqual(nearest_best(plan, [2, 1, 1, 2]), (0, [2, 1, 1, 2]))

    def test_ties_go_to_the_greatest_sums(self):
        plan = Plan([0, 0, 4], [4, 4, 4], [0, 0, 0], [4, 4, 4])
        self.assertEqual(nearest_best(plan, [0, 4, 0]), (2, [1, 2, 1]))
        plan = Plan([0, 3], [3, 3], [0, 0], [3, 3])
        self.assertEqual(nearest_best(plan, [0, 3]), (1, [1, 2]))
        plan = Plan([0, 0, 0, 2], [2, 2, 2, 2], [0] * 4, [2] * 4)
        self.assertEqual(nearest_best(plan, [0, 1, 1, 0]), (0, [0, 1, 1, 0]))
        self.assertEqual(nearest_best(plan, [0, 2, 0, 0]), (1, [1, 1, 0, 0]))
        self.assertEqual(nearest_best(plan, [0, 0, 0, 2]), (1, [0, 0, 1, 1]))

    def test_by_name(self):
        plan = plan_of_four()
        self.assertEqual(count_best(plan=plan), 6)
        self.assertEqual(nth_best(index=5, plan=plan), [2, 2, 1, 1])
        self.assertEqual(best_index(row=[2, 2, 1, 1], plan=plan), 5)
        self.assertEqual(count_through(amount=3, time=2, plan=plan), 4)
        self.assertEqual(nearest_best(row=[2, 2, 1, 1], plan=plan), (0, [2, 2, 1, 1]))

    def test_one_time(self):
        plan = Plan([-5], [-5], [-9], [9])
        self.assertEqual((count_best(plan), nth_best(plan, 0), best_index(plan, [-5])), (1, [-5], 0))
        self.assertEqual([count_through(plan, time, amount) for time in (0, 1) for amount in (0, -5)], [1, 0, 0, 1])
        self.assertEqual(nearest_best(plan, [-5]), (0, [-5]))

    def test_kinds(self):
        told = nearest_best(plan_of_four(), [2, 2, 1, 1])
        self.assertIsInstance(told, tuple)
        self.assertIsInstance(told[1], list)


class ByTryingTest(unittest.TestCase):

    def test_counts_and_indices(self):
        for plan in few_times_plans():
            rows = best_by_swaps(plan)
            self.assertEqual(count_best(plan), len(rows))
            self.assertEqual([nth_best(plan, index) for index in range(len(rows))], rows)
            self.assertEqual([best_index(plan, row) for row in rows], list(range(len(rows))))
            for index in (-1, len(rows), len(rows) + 1, GREAT, -GREAT):
                with self.assertRaises(InvalidIndex):
                    nth_best(plan, index)

    def test_count_through(self):
        for plan in few_times_plans():
            sums = [[0] + all_sums(row) for row in best_by_swaps(plan)]
            reach = [bound for row in all_rows(plan) for bound in [0] + all_sums(row)]
            for time in range(len(plan) + 1):
                for amount in range(min(reach) - 2, max(reach) + 3):
                    many = sum(told[time] == amount for told in sums)
                    self.assertEqual(count_through(plan, time, amount), many)

    def test_nearest_best(self):
        for plan in few_times_plans():
            rows = best_by_swaps(plan)
            for row in all_rows(plan):
                self.assertEqual(nearest_best(plan, row), nearest_of(row, rows), msg=(lists_of(plan), row))

    def test_rows_that_are_not_best(self):
        told = 0
        for plan in few_times_plans():
            rows = best_by_swaps(plan)
            for row in all_rows(plan):
                if row not in rows:
                    told += 1
                    with self.assertRaises(InvalidRow):
                        best_index(plan, row)
        self.assertGreater(told, 500)


class BandTest(unittest.TestCase):
    """Plans whose best rows walk within a narrow band: there are very many of them."""

    def drawn_indices(self, numbers, many):
        near = {0, 1, many // 2, many - 2, many - 1}
        return sorted({index for index in near if 0 <= index < many} | {numbers.wide(0, many - 1) for _ in range(12)})

    def test_indices(self):
        numbers = Numbers(81)
        for plan, k in band_plans(60):
            many = count_best(plan)
            self.assertEqual(many, count_walks(plan, k))
            self.assertEqual(nth_best(plan, 0), latest_row(plan))
            self.assertEqual(nth_best(plan, many - 1), best_row(plan))
            indices = self.drawn_indices(numbers, many)
            rows = [nth_best(plan, index) for index in indices]
            self.assertTrue(all(one < two for one, two in zip(rows, rows[1:])))
            self.assertEqual([best_index(plan, row) for row in rows], indices)
            for row in rows:
                self.assertTrue(fits(plan, row))
                self.assertEqual(sorted(row), best_entries(plan))
            for index in (-1, many, many + 1, -many):
                with self.assertRaises(InvalidIndex):
                    nth_best(plan, index)

    def test_neighbouring_indices(self):
        plan = band_plans(60)[5][0]
        many = count_best(plan)
        self.assertGreater(many, 10 ** 12)
        for start in (0, many // 3, many - 40):
            rows = [nth_best(plan, start + index) for index in range(40)]
            self.assertEqual(rows, sorted(rows))
            self.assertEqual([best_index(plan, row) for row in rows], list(range(start, start + 40)))
            self.assertEqual(len({tuple(row) for row in rows}), 40)

    def test_numbers_through_all_sums_add_up(self):
        for plan, _ in band_plans(60):
            many = count_best(plan)
            upper, lower = [0] + all_sums(best_row(plan)), [0] + all_sums(latest_row(plan))
            for time in {0, 1, len(plan) // 2, len(plan) - 1, len(plan)}:
                parts = [count_through(plan, time, amount) for amount in range(lower[time], upper[time] + 1)]
                self.assertEqual(sum(parts), many)
                self.assertGreater(min(parts), 0)
                for amount in (lower[time] - 1, upper[time] + 1, GREAT, -GREAT):
                    self.assertEqual(count_through(plan, time, amount), 0)

    def test_nearest_best_against_many_numbered_rows(self):
        numbers = Numbers(82)
        for plan, _ in band_plans(60):
            many = count_best(plan)
            for row in (fullest(plan), emptiest(plan), best_row(plan), crossing_row(plan)):
                number, near = nearest_best(plan, row)
                self.assertTrue(is_best(plan, near))
                self.assertEqual(number, distance(row, near))
                for _ in range(25):
                    other = nth_best(plan, numbers.wide(0, many - 1))
                    self.assertGreaterEqual(distance(row, other), number)
                    # Of two rows that are as near the greater sums make a row that is as near, too.
                    if distance(row, other) == number:
                        self.assertTrue(all(one >= two for one, two in zip(all_sums(near), all_sums(other))))
                for time in range(1, len(plan)):
                    raised = list(near)
                    raised[time - 1] += 1
                    raised[time] -= 1
                    if fits(plan, raised) and sorted(raised) == sorted(near):
                        self.assertGreater(distance(row, raised), number)

    def test_best_rows_are_nearest_to_themselves(self):
        for plan, _ in band_plans(60):
            for index in (0, 5, count_best(plan) - 1):
                row = nth_best(plan, index)
                self.assertEqual(nearest_best(plan, row), (0, row))

    def test_a_plan_of_few_rows_by_all_of_them(self):
        for plan, _ in band_plans(20):
            rows = [nth_best(plan, index) for index in range(min(400, count_best(plan)))]
            if len(rows) < count_best(plan):
                continue
            for row in (fullest(plan), emptiest(plan), crossing_row(plan)):
                self.assertEqual(nearest_best(plan, row), nearest_of(row, rows))


def crossing_row(plan):
    """A row whose sums are above those of some best rows and below those of others: the middle of the bounds."""
    target = [(low + high) // 2 for low, high in zip(plan.low, plan.high)]
    sums = [0]
    for amount, least, most in zip(target, plan.least, plan.most):
        sums.append(min(sums[-1] + most, max(sums[-1] + least, amount)))
    row = [after - before for before, after in zip(sums, sums[1:])]
    assert is_row(plan, row)
    return row


class ManyTimesTest(unittest.TestCase):

    def test_rows_of_plans_of_many_times(self):
        for plan in many_times_plans():
            many = count_best(plan)
            rows = [nth_best(plan, index) for index in range(min(many, 30))]
            self.assertEqual([best_index(plan, row) for row in rows], list(range(len(rows))))
            self.assertEqual(rows, sorted(rows))
            self.assertEqual((rows[0], nth_best(plan, many - 1)), (latest_row(plan), best_row(plan)))
            self.assertTrue(all(is_best(plan, row) for row in rows))
            if many == len(rows):
                for row in (fullest(plan), emptiest(plan)):
                    self.assertEqual(nearest_best(plan, row), nearest_of(row, rows))
                for time in tied_times(plan):
                    self.assertEqual(count_through(plan, time, sum(rows[0][:time])), many)

    def test_derived_plans(self):
        plans = few_times_plans()[::5] + many_times_plans()[::5] + [plan for plan, _ in band_plans(30)]
        for one, two in zip(plans, plans[1:]):
            many = count_best(one)
            self.assertEqual(count_best(one.turned()), many)
            self.assertEqual(count_best(one.lifted(-7)), many)
            self.assertEqual(count_best(one.negated()), many)
            self.assertEqual(count_best(one.joined(two)), many * count_best(two))
            self.assertEqual(nth_best(one.negated(), many - 1), [-entry for entry in nth_best(one, 0)])
            self.assertEqual(nth_best(one.lifted(3), many // 2), [entry + 3 for entry in nth_best(one, many // 2)])

    def test_parts_through_a_sum_of_a_best_row(self):
        for plan in few_times_plans()[::3] + [plan for plan, _ in band_plans(30)]:
            sums = [0] + all_sums(nth_best(plan, count_best(plan) // 2))
            for time in range(1, len(plan)):
                # With this sum fixed, the best rows are put together from those of both parts.
                parts = (plan.part(0, time, 0, sums[time]), plan.part(time, len(plan), sums[time], plan.total))
                self.assertEqual(count_best(parts[0]) * count_best(parts[1]), count_through(plan, time, sums[time]))
                row = nth_best(parts[0], 0) + nth_best(parts[1], 0)
                self.assertTrue(is_best(plan, row))


class GeneralTest(unittest.TestCase):

    def test_wrong_indices(self):
        plan = plan_of_four()
        for index in (-1, 6, True, False, None, "1", [1], (1,)):
            with self.assertRaises(InvalidIndex):
                nth_best(plan, index)

    def test_wrong_rows(self):
        for thing in any_objects() + [[2, 2, 1, 2], [6, 0, 0, -1], [1, 1, 2], (1, 1, 2, 2)]:
            for call in (best_index, nearest_best):
                with self.assertRaises(InvalidRow, msg=repr(thing)[:100]):
                    call(plan_of_four(), thing)
        with self.assertRaises(InvalidRow):
            best_index(plan_of_four(), [3, 1, 1, 1])
        self.assertEqual(nearest_best(plan_of_four(), [3, 1, 1, 1])[0], 1)

    def test_wrong_times_and_amounts(self):
        for time in (-1, 5, GREAT, -GREAT, True, None, "1"):
            for amount in (0, True, None):
                with self.assertRaises(InvalidTime):
                    count_through(plan_of_four(), time, amount)
        for amount in (True, None, "3"):
            with self.assertRaises(InvalidNumber):
                count_through(plan_of_four(), 2, amount)

    def test_plans_without_rows(self):
        for plan in rowless_plans():
            check_no_row(self, plan, count_best)
            for index in (0, -1, GREAT, True):
                check_no_row(self, plan, nth_best, index)
            for row in ([0] * len(plan), plan.least, None, [], [True], "row", {}):
                check_no_row(self, plan, best_index, row)
                check_no_row(self, plan, nearest_best, row)
            for time in (0, len(plan)):
                for amount in (0, GREAT, -1):
                    check_no_row(self, plan, count_through, time, amount)
            for time in (-1, len(plan) + 1):
                with self.assertRaises(InvalidTime):
                    count_through(plan, time, 0)
            with self.assertRaises(InvalidNumber):
                count_through(plan, 0, True)

    def test_arguments_stay_and_lists_are_new(self):
        plan, row = plan_of_four(), [3, 1, 1, 1]
        nearest_best(plan, row)[1].append(1)
        self.assertEqual(nearest_best(plan, row), (1, [2, 2, 1, 1]))
        nth_best(plan, 2).clear()
        self.assertEqual(nth_best(plan, 2), [1, 2, 2, 1])
        best = [1, 2, 2, 1]
        self.assertIsNot(nearest_best(plan, best)[1], best)
        best_index(plan, best), count_through(plan, 2, 3), count_best(plan)
        self.assertEqual((plan, row, best), (plan_of_four(), [3, 1, 1, 1], [1, 2, 2, 1]))

    def test_defined_in_the_file(self):
        for call in (count_best, nth_best, best_index, count_through, nearest_best):
            self.assertEqual(call.__module__, "evenbits.counts")
            self.assertIs(getattr(counts, call.__name__), call)


if __name__ == "__main__":
    unittest.main()
