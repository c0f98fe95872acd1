"""Points 2, 3, 4 (R1) and 7: the rows of a plan."""

import unittest

from evenbits import rows
from evenbits.errors import InvalidRow, InvalidTime, NoRow
from evenbits.plans import Plan
from evenbits.rows import conflict, emptiest, fullest, has_row, is_row, sum_range, sums_of
from helpers import (
    GREAT, WHOLE_LISTS, Numbers, all_rows, all_sums, any_objects, broken_pairs, fits, great_plan, lists_of,
    small_plans, some_plan, tiny_plans)

WITHOUT_ROW = Plan([2, 9], [2, 9], [0, 0], [5, 5])


def plan_of_three():
    return Plan([2, 5, 10], [6, 8, 10], [0, 1, 2], [9, 8, 7])


def tried_plans():
    return small_plans() + tiny_plans()


def great_plans_without_row():
    """Great plans, each with one bound moved so that it contradicts others."""
    numbers, found = Numbers(31), []
    for seed in range(6):
        plan = great_plan(40 + seed)[0]
        low, high, least, most = lists_of(plan)
        at = numbers.between(1, 198)
        if seed % 2:
            low[at] = high[at] = high[at] + GREAT
        else:
            low[at] = high[at] = low[at] - GREAT
        found.append(Plan(low, high, least, most))
    return found


class IsRowTest(unittest.TestCase):

    def test_a_row(self):
        self.assertIs(is_row(plan_of_three(), [3, 3, 4]), True)
        self.assertIs(is_row(thing=[6, 2, 2], plan=plan_of_three()), True)

    def test_each_bound(self):
        plan = Plan([0, 0, 4], [3, 3, 4], [-1, -2, 1], [2, 3, 4])
        for row in ([0, 0, 4], [2, 1, 1], [1, 2, 1], [0, 3, 1], [2, -2, 4]):
            self.assertIs(is_row(plan, row), True)
        for row in ([-1, 4, 1], [-1, 2, 3], [3, 0, 1], [2, 2, 0], [1, -2, 5], [0, -1, 5], [2, -2, 3], [0, 0, 5]):
            self.assertIs(is_row(plan, row), False)

    def test_against_all_rows(self):
        for plan in small_plans(21, 60):
            if len(plan) > 3:
                continue
            kept = all_rows(plan)
            wide = Plan([-99] * (len(plan) - 1) + [plan.total], [99] * (len(plan) - 1) + [plan.total],
                        [bound - 1 for bound in plan.least], [bound + 1 for bound in plan.most])
            for row in all_rows(wide):
                self.assertIs(is_row(plan, row), row in kept)
                row[-1] += 1
                self.assertIs(is_row(plan, row), False)

    def test_any_object(self):
        plan = Plan([-9, -9, 0], [9, 9, 0], [-GREAT] * 3, [GREAT] * 3)
        for thing in any_objects():
            self.assertIs(is_row(plan, thing), False, msg=repr(thing)[:100])
        self.assertIs(is_row(plan, [0, 0, 0]), True)

    def test_booleans_and_tuples(self):
        plan = Plan([1, 1], [1, 1], [0, 0], [1, 1])
        self.assertIs(is_row(plan, [1, 0]), True)
        for thing in ([True, 0], [1, False], [True, False], (1, 0), "1 0", {"1": 0}):
            self.assertIs(is_row(plan, thing), False)

    def test_another_length(self):
        plan = Plan([0, 0], [0, 0], [0, 0], [0, 0])
        for thing in ([], [0], [0, 0, 0], [0] * 200, [0] * 201):
            self.assertIs(is_row(plan, thing), False)

    def test_plan_without_rows(self):
        for thing in ([2, 7], [4, 5], None):
            self.assertIs(is_row(WITHOUT_ROW, thing), False)

    def test_great_rows(self):
        plan, row = great_plan(22)
        self.assertIs(is_row(plan, row), True)
        row[100] = plan.most[100] + 1
        self.assertIs(is_row(plan, row), False)


class SumsOfTest(unittest.TestCase):

    def test_sums(self):
        self.assertEqual(sums_of([3, 3, 4]), [3, 6, 10])
        self.assertEqual(sums_of([0]), [0])
        self.assertEqual(sums_of([-5, 5, -GREAT]), [-5, 0, -GREAT])
        self.assertEqual(sums_of(row=[1] * 200), list(range(1, 201)))
        self.assertEqual(sums_of([GREAT] * 3), [GREAT, 2 * GREAT, 3 * GREAT])
        self.assertEqual(sums_of([10 ** 50, 1]), [10 ** 50, 10 ** 50 + 1])

    def test_new_list(self):
        row = [7]
        sums = sums_of(row)
        self.assertEqual(sums, row)
        self.assertIsNot(sums, row)
        sums.append(1)
        self.assertEqual((row, sums_of(row)), ([7], [7]))

    def test_any_object(self):
        for thing in any_objects():
            if thing not in WHOLE_LISTS:
                with self.assertRaises(InvalidRow, msg=repr(thing)[:100]):
                    sums_of(thing)

    def test_booleans(self):
        for thing in ([True], [1, False], [True, True]):
            with self.assertRaises(InvalidRow):
                sums_of(thing)

    def test_too_many(self):
        with self.assertRaises(InvalidRow):
            sums_of([0] * 201)


class HasRowTest(unittest.TestCase):

    def test_by_trying(self):
        answers = {True: 0, False: 0}
        for plan in tried_plans():
            expected = bool(all_rows(plan))
            self.assertIs(has_row(plan), expected, msg=lists_of(plan))
            answers[expected] += 1
        self.assertGreater(min(answers.values()), 100)

    def test_one_time(self):
        self.assertIs(has_row(plan=Plan([5], [5], [5], [5])), True)
        self.assertIs(has_row(Plan([5], [5], [0], [4])), False)
        self.assertIs(has_row(Plan([5], [5], [6], [9])), False)

    def test_great_plans(self):
        self.assertIs(has_row(great_plan(23)[0]), True)
        for plan in great_plans_without_row():
            self.assertIs(has_row(plan), False)


class ConflictTest(unittest.TestCase):

    def check_conflict(self, plan, pair):
        self.assertEqual(conflict(plan), pair, msg=lists_of(plan))
        if pair is not None:
            self.assertIsInstance(conflict(plan), tuple)

    def test_pairs(self):
        self.check_conflict(plan_of_three(), None)
        self.check_conflict(WITHOUT_ROW, (1, 2))
        self.check_conflict(Plan([9], [9], [0], [5]), (0, 1))
        self.check_conflict(Plan([2, 9], [3, 9], [0, 0], [3, 3]), (0, 2))
        self.check_conflict(Plan([8, 9], [8, 9], [0, 2], [9, 3]), (1, 2))

    def test_first_pair_by_s_then_by_t(self):
        self.check_conflict(Plan([0, 9, 9, 9], [0, 9, 9, 9], [0, 0, 1, 0], [5, 5, 5, 5]), (1, 2))
        self.check_conflict(Plan([0, 0, 9, 99], [0, 0, 9, 99], [0, 0, 0, 0], [5, 5, 5, 5]), (0, 4))

    def test_by_all_pairs(self):
        for plan in tried_plans():
            pairs = broken_pairs(plan)
            self.check_conflict(plan, min(pairs) if pairs else None)
            self.assertEqual(bool(pairs), not all_rows(plan))

    def test_great_plans(self):
        self.check_conflict(great_plan(24)[0], None)
        for plan in great_plans_without_row():
            self.check_conflict(plan, min(broken_pairs(plan)))
            self.assertEqual(conflict(plan=plan), conflict(plan))

    def test_many_times_small_numbers(self):
        numbers = Numbers(25)
        for times in (20, 60, 199, 200):
            plan = some_plan(numbers, times, 4)
            pairs = broken_pairs(plan)
            self.check_conflict(plan, min(pairs) if pairs else None)


class SumRangeTest(unittest.TestCase):

    def test_by_trying(self):
        for plan in tried_plans():
            kept = [[0] + all_sums(row) for row in all_rows(plan)]
            for time in range(len(plan) + 1):
                if kept:
                    told = {sums[time] for sums in kept}
                    self.assertEqual(sum_range(plan, time), (min(told), max(told)))
                    self.assertEqual(len(told), max(told) - min(told) + 1)
                else:
                    self.check_no_row(plan, lambda: sum_range(plan, time))

    def check_no_row(self, plan, call):
        with self.assertRaises(NoRow) as caught:
            call()
        self.assertEqual((caught.exception.first, caught.exception.last), min(broken_pairs(plan)))

    def test_ends(self):
        plan = plan_of_three()
        self.assertEqual(sum_range(plan, 0), (0, 0))
        self.assertEqual(sum_range(time=3, plan=plan), (10, 10))
        self.assertEqual(sum_range(plan, 1), (2, 6))
        self.assertIsInstance(sum_range(plan, 1), tuple)

    def test_times_beyond(self):
        for time in (-1, 4, GREAT, -GREAT, True, False, None, "1", [1], (1,)):
            with self.assertRaises(InvalidTime):
                sum_range(plan_of_three(), time)

    def test_time_comes_before_the_rows(self):
        for time in (-1, 3, True):
            with self.assertRaises(InvalidTime):
                sum_range(WITHOUT_ROW, time)
        self.check_no_row(WITHOUT_ROW, lambda: sum_range(WITHOUT_ROW, 0))
        self.check_no_row(WITHOUT_ROW, lambda: sum_range(WITHOUT_ROW, 2))

    def test_great_plans_by_all_pairs(self):
        plan = great_plan(26, slack=GREAT // 40)[0]
        low, high = [0] + plan.low, [0] + plan.high
        slow, fast = [0] + all_sums(plan.least), [0] + all_sums(plan.most)
        for time in range(0, 201, 7):
            # Up to the time entries are at most "most", behind it at least "least", and the other way round.
            most = [high[s] + fast[time] - fast[s] for s in range(time + 1)]
            most += [high[s] - slow[s] + slow[time] for s in range(time, 201)]
            least = [low[s] + slow[time] - slow[s] for s in range(time + 1)]
            least += [low[s] - fast[s] + fast[time] for s in range(time, 201)]
            self.assertEqual(sum_range(plan, time), (max(least), min(most)))


class ExtremeRowsTest(unittest.TestCase):

    def test_by_trying(self):
        for plan in tried_plans():
            kept = all_rows(plan)
            for call, pick in ((fullest, max), (emptiest, min)):
                if kept:
                    sums = [pick(column) for column in zip(*[all_sums(row) for row in kept])]
                    self.assertEqual(all_sums(call(plan)), sums)
                    self.assertIn(call(plan), kept)
                else:
                    SumRangeTest.check_no_row(self, plan, lambda: call(plan))

    def test_examples(self):
        plan = plan_of_three()
        self.assertEqual(fullest(plan), [6, 2, 2])
        self.assertEqual(emptiest(plan), [2, 3, 5])
        self.assertEqual(fullest(plan=Plan([-3], [-3], [-5], [0])), [-3])
        self.assertEqual(emptiest(plan=Plan([-3], [-3], [-5], [0])), [-3])

    def test_great_plans(self):
        plan, row = great_plan(27)
        upper, lower = fullest(plan), emptiest(plan)
        for found in (upper, lower):
            self.assertTrue(fits(plan, found))
        for time, total in enumerate(all_sums(row), start=1):
            least, greatest = sum_range(plan, time)
            self.assertEqual((sum(lower[:time]), sum(upper[:time])), (least, greatest))
            self.assertTrue(least <= total <= greatest)

    def test_great_plans_without_row(self):
        for plan in great_plans_without_row():
            for call in (fullest, emptiest, lambda plan: sum_range(plan, 0)):
                SumRangeTest.check_no_row(self, plan, lambda: call(plan))

    def test_new_lists(self):
        plan = plan_of_three()
        for call in (fullest, emptiest):
            one, two = call(plan), call(plan)
            self.assertEqual(one, two)
            self.assertIsNot(one, two)
            one.clear()
            self.assertEqual(call(plan), two)

    def test_one_row_alone(self):
        plan = Plan([3, 1], [3, 1], [3, -2], [3, -2])
        self.assertEqual((fullest(plan), emptiest(plan)), ([3, -2], [3, -2]))
        self.assertIsNot(fullest(plan), emptiest(plan))


class GeneralTest(unittest.TestCase):

    def test_plan_stays(self):
        plan, other = plan_of_three(), Plan(*lists_of(WITHOUT_ROW))
        is_row(plan, [1, 2, 3]), has_row(plan), conflict(plan), sum_range(plan, 1), fullest(plan), emptiest(plan)
        conflict(other)
        self.assertEqual((plan, other), (plan_of_three(), WITHOUT_ROW))

    def test_rows_stay(self):
        row = [3, 3, 4]
        sums_of(row), is_row(plan_of_three(), row)
        self.assertEqual(row, [3, 3, 4])

    def test_defined_in_the_file(self):
        for name in ("is_row", "sums_of", "has_row", "conflict", "sum_range", "fullest", "emptiest"):
            self.assertEqual(getattr(rows, name).__module__, "evenbits.rows")


if __name__ == "__main__":
    unittest.main()
