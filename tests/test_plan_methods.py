"""Points 2 and 6: the methods of Plan that return new plans."""

import unittest

from evenbits.errors import InvalidNumber, InvalidPlan, InvalidSide, InvalidTime
from evenbits.plans import Plan
from helpers import GREAT, all_rows, fits, great_plan, lists_of, small_plans, tiny_plans

LISTS = ([2, 5, 10], [6, 8, 10], [0, 1, 2], [9, 8, 7])
NOT_WHOLE = [True, False, None, "1", [1], (1,)]


def plan_of_three():
    return Plan([2, 5, 10], [6, 8, 10], [0, 1, 2], [9, 8, 7])


class MethodsTest(unittest.TestCase):

    def check_lists(self, plan, *lists):
        self.assertIsInstance(plan, Plan)
        self.assertEqual(lists_of(plan), lists)


class TurnedTest(MethodsTest):

    def test_lists(self):
        self.check_lists(plan_of_three().turned(), [2, 4, 10], [5, 8, 10], [2, 1, 0], [7, 8, 9])
        self.check_lists(Plan([-3], [-3], [-4], [5]).turned(), [-3], [-3], [-4], [5])
        self.check_lists(Plan([-GREAT, 5], [GREAT, 5], [0, 1], [2, 3]).turned(),
                         [5 - GREAT, 5], [5 + GREAT, 5], [1, 0], [3, 2])

    def test_rows_are_backwards(self):
        for plan in small_plans(11) + tiny_plans():
            backwards = sorted(row[::-1] for row in all_rows(plan))
            self.assertEqual(all_rows(plan.turned()), backwards)

    def test_twice(self):
        for plan in small_plans(12) + [great_plan(2)[0]]:
            self.assertEqual(plan.turned().turned(), plan)

    def test_great_row(self):
        plan, row = great_plan(3)
        self.assertTrue(fits(plan.turned(), row[::-1]))


class LiftedTest(MethodsTest):

    def test_lists(self):
        self.check_lists(plan_of_three().lifted(5), [7, 15, 25], [11, 18, 25], [5, 6, 7], [14, 13, 12])
        self.check_lists(plan_of_three().lifted(-2), [0, 1, 4], [4, 4, 4], [-2, -1, 0], [7, 6, 5])
        self.check_lists(plan_of_three().lifted(GREAT), [2 + GREAT, 5 + 2 * GREAT, 10 + 3 * GREAT],
                         [6 + GREAT, 8 + 2 * GREAT, 10 + 3 * GREAT], [GREAT, 1 + GREAT, 2 + GREAT],
                         [9 + GREAT, 8 + GREAT, 7 + GREAT])

    def test_by_nothing(self):
        self.assertEqual(plan_of_three().lifted(0), plan_of_three())

    def test_rows_are_lifted(self):
        for plan in small_plans(13, 120):
            for by in (-4, -1, 0, 1, 7):
                lifted = [[entry + by for entry in row] for row in all_rows(plan)]
                self.assertEqual(all_rows(plan.lifted(by=by)), lifted)

    def test_there_and_back(self):
        for plan in small_plans(14) + [great_plan(4)[0]]:
            self.assertEqual(plan.lifted(-GREAT).lifted(GREAT), plan)

    def test_no_integer(self):
        for by in NOT_WHOLE:
            with self.assertRaises(InvalidNumber):
                plan_of_three().lifted(by)


class NegatedTest(MethodsTest):

    def test_lists(self):
        self.check_lists(plan_of_three().negated(), [-6, -8, -10], [-2, -5, -10], [-9, -8, -7], [0, -1, -2])
        self.check_lists(Plan([0], [0], [0], [GREAT]).negated(), [0], [0], [-GREAT], [0])

    def test_rows_are_negated(self):
        for plan in small_plans(15) + tiny_plans():
            negated = sorted([-entry for entry in row] for row in all_rows(plan))
            self.assertEqual(all_rows(plan.negated()), negated)

    def test_twice(self):
        for plan in small_plans(16) + [great_plan(5)[0]]:
            self.assertEqual(plan.negated().negated(), plan)


class MultipliedTest(MethodsTest):

    def test_lists(self):
        self.check_lists(plan_of_three().multiplied(3), [6, 15, 30], [18, 24, 30], [0, 3, 6], [27, 24, 21])
        self.check_lists(Plan([-2, 1], [-1, 1], [-5, 0], [0, 4]).multiplied(GREAT),
                         [-2 * GREAT, GREAT], [-GREAT, GREAT], [-5 * GREAT, 0], [0, 4 * GREAT])

    def test_by_one(self):
        self.assertEqual(plan_of_three().multiplied(1), plan_of_three())

    def test_multiplied_rows_are_rows(self):
        for plan in small_plans(17, 100):
            bigger = plan.multiplied(by=2)
            self.assertEqual([row for row in all_rows(bigger) if not any(entry % 2 for entry in row)],
                             [[2 * entry for entry in row] for row in all_rows(plan)])

    def test_below_one(self):
        for by in (0, -1, -2, -GREAT):
            with self.assertRaises(InvalidNumber):
                plan_of_three().multiplied(by)

    def test_no_integer(self):
        for by in NOT_WHOLE:
            with self.assertRaises(InvalidNumber):
                plan_of_three().multiplied(by)


class JoinedTest(MethodsTest):

    def test_lists(self):
        other = Plan([-1, 4], [3, 4], [-5, 0], [5, 9])
        self.check_lists(plan_of_three().joined(other), [2, 5, 10, 9, 14], [6, 8, 10, 13, 14],
                         [0, 1, 2, -5, 0], [9, 8, 7, 5, 9])
        self.check_lists(other.joined(plan_of_three()), [-1, 4, 6, 9, 14], [3, 4, 10, 12, 14],
                         [-5, 0, 0, 1, 2], [5, 9, 9, 8, 7])

    def test_with_itself(self):
        plan = Plan([GREAT], [GREAT], [0], [GREAT])
        self.check_lists(plan.joined(plan), [GREAT, 2 * GREAT], [GREAT, 2 * GREAT], [0, 0], [GREAT, GREAT])

    def test_rows_are_joined(self):
        found = [plan for plan in small_plans(18, 60) if len(plan) <= 3]
        for one, two in zip(found, found[1:]):
            joined = [row + rest for row in all_rows(one) for rest in all_rows(two)]
            self.assertEqual(all_rows(one.joined(other=two)), joined)

    def test_parts_are_the_joined_plans(self):
        one, two = plan_of_three(), great_plan(6, 100)[0]
        joined = one.joined(two)
        self.assertEqual(joined.part(0, 3, 0, 10), one)
        self.assertEqual(joined.part(3, 103, 10, joined.total), two)

    def test_two_hundred_times(self):
        one, two = great_plan(7, 150)[0], great_plan(8, 50)[0]
        self.assertEqual(len(one.joined(two)), 200)
        self.assertEqual(one.joined(two).total, one.total + two.total)

    def test_more_than_two_hundred_times(self):
        one, two, three = great_plan(7, 150)[0], great_plan(8, 51)[0], great_plan(9, 200)[0]
        for first, second in ((one, two), (two, one), (three, plan_of_three()), (three, three)):
            with self.assertRaises(InvalidPlan):
                first.joined(second)

    def test_both_stay(self):
        one, two = plan_of_three(), Plan([1], [1], [0], [3])
        one.joined(two)
        self.assertEqual((one, two), (plan_of_three(), Plan([1], [1], [0], [3])))


class PartTest(MethodsTest):

    def test_lists(self):
        plan = plan_of_three()
        self.check_lists(plan.part(0, 3, 0, 10), *LISTS)
        self.check_lists(plan.part(0, 1, 0, 4), [4], [4], [0], [9])
        self.check_lists(plan.part(1, 3, 4, 10), [1, 6], [4, 6], [1, 2], [8, 7])
        self.check_lists(plan.part(1, 2, 6, 5), [-1], [-1], [1], [8])
        self.check_lists(plan.part(2, 3, 5, 10), [5], [5], [2], [7])
        self.check_lists(plan.part(0, 2, 0, 8), [2, 8], [6, 8], [0, 1], [9, 8])

    def test_rows_are_the_parts_of_rows(self):
        for plan in small_plans(19, 100):
            rows = all_rows(plan)
            for first in range(len(plan)):
                for last in range(first + 1, len(plan) + 1):
                    self.check_parts(plan, rows, first, last)

    def check_parts(self, plan, rows, first, last):
        kept = {}
        for row in rows:
            ends = sum(row[:first]), sum(row[:last])
            if row[first:last] not in kept.setdefault(ends, []):
                kept[ends].append(row[first:last])
        for (begin, end), pieces in kept.items():
            part = plan.part(first=first, last=last, begin=begin, end=end)
            self.assertEqual(all_rows(part), sorted(pieces))

    def test_both_ends_of_the_bounds(self):
        plan = plan_of_three()
        for begin in range(2, 7):
            for end in range(5, 9):
                self.check_lists(plan.part(1, 2, begin, end), [end - begin], [end - begin], [1], [8])

    def test_begin_beyond_the_bounds(self):
        for begin in (1, 7, -GREAT, GREAT, True, None, "4", [4]):
            with self.assertRaises(InvalidNumber):
                plan_of_three().part(1, 3, begin, 10)

    def test_begin_at_time_nought(self):
        for begin in (-1, 1, 2, GREAT, False):
            with self.assertRaises(InvalidNumber):
                plan_of_three().part(0, 2, begin, 7)

    def test_end_beyond_the_bounds(self):
        for end in (4, 9, -GREAT, GREAT, True, None, "6", [6]):
            with self.assertRaises(InvalidNumber):
                plan_of_three().part(1, 2, 4, end)
        for end in (9, 11):
            with self.assertRaises(InvalidNumber):
                plan_of_three().part(1, 3, 4, end)

    def test_first_and_last_beyond_the_times(self):
        for first, last in ((-1, 2), (3, 3), (3, 4), (4, 5), (1, 1), (2, 1), (0, 0), (0, 4), (2, 4), (0, -1),
                            (GREAT, GREAT + 1), (False, 2), (0, True), (None, 2), (0, None), ("0", 2), ([0], 1)):
            with self.assertRaises(InvalidTime):
                plan_of_three().part(first, last, 0, 10)

    def test_first_invalid_argument_decides(self):
        for arguments in ((-1, 2, 99, 99), (1, 4, 99, 99), (2, 2, 99, 10), (True, 2, True, True)):
            with self.assertRaises(InvalidTime):
                plan_of_three().part(*arguments)
        with self.assertRaises(InvalidNumber):
            plan_of_three().part(1, 2, 99, 99)

    def test_part_of_a_plan_without_rows(self):
        plan = Plan([0, 9], [5, 9], [0, 0], [1, 1])
        self.check_lists(plan.part(1, 2, 5, 9), [4], [4], [0], [1])

    def test_great_part(self):
        plan, row = great_plan(10)
        part = plan.part(50, 150, sum(row[:50]), sum(row[:150]))
        self.assertTrue(fits(part, row[50:150]))
        self.assertEqual(len(part), 100)


class LoosenedTest(MethodsTest):

    def test_lists(self):
        plan = plan_of_three()
        self.check_lists(plan.loosened(1, "low"), [-5, 5, 10], *LISTS[1:])
        self.check_lists(plan.loosened(2, "low"), [2, 1, 10], *LISTS[1:])
        self.check_lists(plan.loosened(1, "high"), LISTS[0], [9, 8, 10], *LISTS[2:])
        self.check_lists(plan.loosened(2, "high"), LISTS[0], [6, 17, 10], *LISTS[2:])

    def test_total_less_what_follows(self):
        plan = Plan([0, 1], [1, 1], [-2, -9], [3, 2])
        self.check_lists(plan.loosened(1, "low"), [-2, 1], [1, 1], [-2, -9], [3, 2])
        self.check_lists(plan.loosened(1, "high"), [0, 1], [10, 1], [-2, -9], [3, 2])

    def test_the_bound_itself(self):
        plan = Plan([-50, 1], [50, 1], [-2, -9], [3, 2])
        self.assertEqual(plan.loosened(1, "low"), plan)
        self.assertEqual(plan.loosened(1, "high"), plan)

    def test_rows_without_the_bound(self):
        for plan in small_plans(20, 150):
            for time in range(1, len(plan)):
                for side, bound in (("low", -1000), ("high", 1000)):
                    loosened = plan.loosened(time=time, side=side)
                    lists = {"low": plan.low, "high": plan.high}
                    lists[side][time - 1] = bound
                    without = Plan(lists["low"], lists["high"], plan.least, plan.most)
                    self.assertEqual(all_rows(loosened), all_rows(without))
                    self.assertEqual(loosened.loosened(time, side), loosened)

    def test_great_numbers(self):
        plan = Plan([0, 0, 5], [0, 0, 5], [-GREAT, 0, 0], [GREAT, 0, 0])
        self.check_lists(plan.loosened(1, "low"), [-GREAT, 0, 5], [0, 0, 5], [-GREAT, 0, 0], [GREAT, 0, 0])
        self.check_lists(plan.loosened(2, "high"), [0, 0, 5], [0, GREAT, 5], [-GREAT, 0, 0], [GREAT, 0, 0])

    def test_other_sides(self):
        for side in ("", "Low", "HIGH", "low ", "end", "least", "lowhigh", "l", None, 1, ["low"], ("low",)):
            with self.assertRaises(InvalidSide):
                plan_of_three().loosened(1, side)

    def test_other_times(self):
        for time in (0, 3, 4, -1, GREAT, True, False, None, "1", [1]):
            with self.assertRaises(InvalidTime):
                plan_of_three().loosened(time, "low")
        for time in (0, 1):
            with self.assertRaises(InvalidTime):
                Plan([1], [1], [0], [2]).loosened(time, "high")

    def test_first_invalid_argument_decides(self):
        with self.assertRaises(InvalidTime):
            plan_of_three().loosened(3, "side")


class UnchangedTest(MethodsTest):

    def test_plan_stays(self):
        plan = plan_of_three()
        plan.turned(), plan.lifted(3), plan.negated(), plan.multiplied(2), plan.joined(plan)
        plan.part(1, 3, 4, 10), plan.loosened(1, "low"), plan.loosened(2, "high")
        for call in (lambda: plan.lifted(None), lambda: plan.multiplied(0), lambda: plan.part(0, 3, 0, 9),
                     lambda: plan.loosened(0, "low"), lambda: plan.loosened(1, "x")):
            with self.assertRaises((InvalidNumber, InvalidTime, InvalidSide)):
                call()
        self.check_lists(plan, *LISTS)

    def test_equal_calls_give_equal_plans(self):
        plan, other = plan_of_three(), plan_of_three()
        self.assertEqual(plan.turned(), other.turned())
        self.assertEqual(plan.part(1, 3, 4, 10), other.part(1, 3, 4, 10))
        self.assertEqual(plan.loosened(1, "low"), other.loosened(1, "low"))


if __name__ == "__main__":
    unittest.main()
