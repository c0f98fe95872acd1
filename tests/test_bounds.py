"""Points 3, 4 (R1, R2, R5) and 13: what the bounds of the sums may do to the best rows."""

import unittest

from evenbits import bounds
from evenbits.best import best_entries, best_row, latest_row
from evenbits.bounds import idle, moved_bound, needless, room_of, shifts
from evenbits.errors import InvalidNumber, InvalidPlan, InvalidSide, InvalidTime, NoRow
from evenbits.plans import Plan
from evenbits.rows import has_row
from helpers import (
    GREAT, Numbers, all_rows, all_sums, band_plans, best_by_swaps, broken_pairs, check_no_row, few_times_plans,
    lists_of, long_plans, made_plan, many_times_plans, rowless_plans, small_plans)

SIDES = ("low", "high")
NO_SIDES = ("", "Low", "lo", "low ", " high", "end", "HIGH", "highlow", "both")


def plan_of_three():
    return Plan([0, 3, 6], [6, 6, 6], [0, 0, 0], [9, 9, 9])


def moved(plan, time, side, by):
    """The plan with a bound moved, by its lists; None if low is above high then."""
    low, high = plan.low, plan.high
    told = low if side == "low" else high
    told[time - 1] += by
    if low[time - 1] > high[time - 1]:
        return None
    return Plan(low, high, plan.least, plan.most)


def inwards(plan, time, side, by):
    return moved(plan, time, side, by if side == "low" else -by)


def without_bound(plan, time, side):
    """The plan with a bound moved so far out that no row is beyond it."""
    reach = sum(abs(bound) for bound in plan.least + plan.most) + abs(plan.total) + 1
    return inwards(plan, time, side, -2 * reach - abs(plan.low[time - 1]) - abs(plan.high[time - 1]))


def wide_rows(plan, time, side):
    """The best rows, by trying, of a plan without one bound."""
    return best_by_swaps(without_bound(plan, time, side))


def inner_bounds(plan):
    return [(time, side) for time in range(1, len(plan)) for side in sorted(SIDES)]


def ends_of_best(plan):
    return best_row(plan), latest_row(plan)


def drawn_plans():
    """Plans of 1 to 60 times that have rows, with numbers of up to 24 digits."""
    numbers = Numbers(131)
    found = [made_plan(numbers, numbers.between(2, 30), size, slack, reach)
             for size in (3, 10 ** 23) for slack in (0, size, 6 * size) for reach in (1, size)]
    found += [made_plan(numbers, times, size, size * 2, size) for times, size in ((1, 9), (45, 6), (60, 10 ** 23))]
    return found + [plan for plan, _ in band_plans(30)]


class RoomTest(unittest.TestCase):

    def test_examples(self):
        plan = plan_of_three()
        self.assertEqual(best_by_swaps(plan), [[2, 2, 2]])
        self.assertEqual([room_of(plan, time, side) for time in (1, 2) for side in SIDES], [2, 4, 1, 2])
        self.assertEqual(room_of(side="high", time=2, plan=plan), 2)
        plan = Plan([0, 1, 0, 7], [5, 5, 7, 7], [0] * 4, [9] * 4)
        self.assertEqual([room_of(plan, 2, side) for side in SIDES], [2, 1])
        plan = Plan([0, 0, 9], [0, 9, 9], [0, 0, 0], [9, 9, 9])
        self.assertEqual([room_of(plan, time, side) for time in (1, 2) for side in SIDES], [0, 0, 4, 4])

    def test_small_plans_by_trying(self):
        for plan in few_times_plans():
            best = best_by_swaps(plan)
            for time, side in inner_bounds(plan):
                room = room_of(plan, time, side)
                self.assertGreaterEqual(room, 0)
                for by in {0, 1, room // 2, room}:
                    if by <= room:
                        self.assertEqual(best_by_swaps(inwards(plan, time, side, by)), best)
                for by in (room + 1, room + 2):
                    told = inwards(plan, time, side, by)
                    self.assertTrue(told is None or best_by_swaps(told) != best)

    def test_many_times(self):
        for plan in drawn_plans() + long_plans()[::4]:
            ends = ends_of_best(plan)
            for time in range(1, len(plan), 1 + len(plan) // 5):
                for side in SIDES:
                    room = room_of(plan, time, side)
                    self.assertEqual(ends_of_best(inwards(plan, time, side, room)), ends)
                    told = inwards(plan, time, side, room + 1)
                    self.assertTrue(told is None or not has_row(told) or ends_of_best(told) != ends)

    def test_wrong_times_and_sides(self):
        for time in (0, -1, 3, 4, GREAT, -GREAT, True, None, "1"):
            for side in SIDES + NO_SIDES:
                with self.assertRaises(InvalidTime):
                    room_of(plan_of_three(), time, side)
        for side in NO_SIDES:
            with self.assertRaises(InvalidSide):
                room_of(plan_of_three(), 1, side)

    def test_one_time_has_no_bound_before_the_total(self):
        for time in (0, 1):
            for side in ("low", "other"):
                with self.assertRaises(InvalidTime):
                    room_of(Plan([4], [4], [0], [9]), time, side)
                with self.assertRaises(InvalidTime):
                    moved_bound(Plan([4], [4], [0], [9]), time, side, 0)


class NeedlessTest(unittest.TestCase):

    def test_examples(self):
        plan = Plan([0, 4, 6], [6, 6, 6], [0, 0, 0], [9, 9, 9])
        self.assertEqual(best_by_swaps(plan), [[2, 2, 2]])
        self.assertEqual(needless(plan), [(1, "high"), (1, "low"), (2, "high"), (2, "low")])
        plan = Plan([0, 5, 6], [6, 6, 6], [0, 0, 0], [9, 9, 9])
        self.assertEqual(needless(plan), [(1, "high"), (1, "low"), (2, "high")])
        self.assertEqual(idle(plan=plan), [(1, "high"), (1, "low"), (2, "high")])

    def test_idle_bounds_that_are_not_needless(self):
        plan = Plan([2, 3], [3, 3], [0, 0], [9, 9])
        self.assertEqual(needless(plan=plan), [(1, "high")])
        self.assertEqual(idle(plan), [(1, "high"), (1, "low")])

    def test_small_plans_by_trying(self):
        for plan in few_times_plans()[::2] + [plan for plan in small_plans(132, 60) if has_row(plan)]:
            best = best_by_swaps(plan)
            wide = {bound: wide_rows(plan, *bound) for bound in inner_bounds(plan)}
            self.assertEqual(needless(plan), [bound for bound, rows in wide.items() if rows == best])
            self.assertEqual(idle(plan), [bound for bound, rows in wide.items() if sorted(rows[0]) == sorted(best[0])])

    def test_many_times(self):
        for plan in drawn_plans():
            told, kept = needless(plan), idle(plan)
            self.assertEqual((told, kept), (sorted(set(told)), sorted(set(kept))))
            ends, entries = ends_of_best(plan), best_entries(plan)
            tried = inner_bounds(plan)
            for bound in tried if len(tried) < 40 else tried[::7]:
                wide = without_bound(plan, *bound)
                self.assertEqual(bound in told, ends_of_best(wide) == ends)
                self.assertEqual(bound in kept, best_entries(wide) == entries)

    def test_one_time(self):
        for total in (0, -5, GREAT):
            plan = Plan([total], [total], [-GREAT], [GREAT])
            self.assertEqual((needless(plan), idle(plan)), ([], []))

    def test_every_needless_bound_is_idle(self):
        for plan in few_times_plans() + drawn_plans()[:4]:
            self.assertLessEqual(set(needless(plan)), set(idle(plan)))


class MovedTest(unittest.TestCase):

    def test_examples(self):
        plan = plan_of_three()
        self.assertEqual(moved_bound(plan, 1, "low", 4), Plan([4, 3, 6], [6, 6, 6], [0, 0, 0], [9, 9, 9]))
        self.assertEqual(moved_bound(plan, 2, "high", -3), Plan([0, 3, 6], [6, 3, 6], [0, 0, 0], [9, 9, 9]))
        self.assertEqual(moved_bound(by=-7, side="low", time=2, plan=plan).low, [0, -4, 6])
        self.assertEqual(moved_bound(plan, 2, "high", GREAT).high, [6, 6 + GREAT, 6])

    def test_plans_with_and_without_rows(self):
        for plan in small_plans(133, 200) + rowless_plans() + many_times_plans()[::8]:
            for time, side in inner_bounds(plan)[:12]:
                room = plan.high[time - 1] - plan.low[time - 1]
                for by in (0, 1, -1, room, room + 1, -room, -room - 1, GREAT, -GREAT):
                    told = moved(plan, time, side, by)
                    if told is None:
                        with self.assertRaises(InvalidPlan):
                            moved_bound(plan, time, side, by)
                    else:
                        self.assertEqual(moved_bound(plan, time, side, by), told)

    def test_moved_and_back(self):
        for plan in small_plans(134, 80):
            for time, side in inner_bounds(plan):
                by = -5 if side == "low" else 5
                self.assertEqual(moved_bound(moved_bound(plan, time, side, by), time, side, -by), plan)

    def test_the_first_wrong_argument_decides(self):
        plan = plan_of_three()
        for time in (0, 3, -GREAT, True, None):
            for side in ("low", "other"):
                for by in (0, GREAT, None):
                    with self.assertRaises(InvalidTime):
                        moved_bound(plan, time, side, by)
        for side in NO_SIDES:
            for by in (0, GREAT, None):
                with self.assertRaises(InvalidSide):
                    moved_bound(plan, 1, side, by)
        for by in (True, False, None, "1", [1]):
            with self.assertRaises(InvalidNumber):
                moved_bound(plan, 1, "low", by)


class ShiftsTest(unittest.TestCase):

    def test_examples(self):
        plan = Plan([0, 0, 6], [6, 2, 6], [0, 0, 0], [9, 9, 9])
        self.assertEqual(best_row(plan), [1, 1, 4])
        self.assertEqual(shifts(plan, Plan([0, 0, 6], [6, 4, 6], [0, 0, 0], [9, 9, 9])), [1, 2, 0])
        self.assertEqual(shifts(other=plan, plan=Plan([3, 0, 7], [6, 9, 7], [0, 0, 0], [9, 9, 9])), [-2, -3, -1])
        self.assertEqual(shifts(plan, plan), [0, 0, 0])
        self.assertEqual(shifts(Plan([4], [4], [0], [9]), Plan([-GREAT], [-GREAT], [-GREAT], [9])), [-GREAT - 4])

    def test_small_plans_by_trying(self):
        plans = [(plan, max(best_by_swaps(plan), key=all_sums)) for plan in few_times_plans()]
        for (plan, row), (other, other_row) in zip(plans, plans[7:]):
            if len(plan) == len(other):
                self.assertEqual(shifts(plan, other),
                                 [two - one for one, two in zip(all_sums(row), all_sums(other_row))])
            else:
                with self.assertRaises(InvalidNumber):
                    shifts(plan, other)

    def test_bounds_that_go_up(self):
        """R5: the sums of the first and of the latest best row go up as well, and by no more."""
        numbers, tried = Numbers(135), 0
        for plan in few_times_plans()[::3] + drawn_plans() + many_times_plans()[::4] + long_plans()[::3]:
            for most in (1, 4, max(1, (max(plan.most) - min(plan.least)) // 3)):
                ups = [[numbers.wide(0, most) for _ in range(len(plan) - 1)] + [0] for _ in SIDES]
                low = [bound + up for bound, up in zip(plan.low, ups[0])]
                high = [max(bottom, bound + up) for bottom, bound, up in zip(low, plan.high, ups[1])]
                if any(bound > before + most for bound, before in zip(high, plan.high)):
                    continue
                other = Plan(low, high, plan.least, plan.most)
                if has_row(other):
                    tried += 1
                    for up in shifts(plan, other):
                        self.assertTrue(0 <= up <= most)
                    self.assertEqual(shifts(other, plan), [-up for up in shifts(plan, other)])
                    for one, two in zip(all_sums(latest_row(plan)), all_sums(latest_row(other))):
                        self.assertTrue(one <= two <= one + most)
        self.assertGreater(tried, 60)

    def test_a_plan_and_itself(self):
        for plan in few_times_plans()[::5] + long_plans()[::3]:
            self.assertEqual(shifts(plan, Plan(*lists_of(plan))), [0] * len(plan))

    def test_other_numbers_of_times_come_before_the_rows(self):
        longer, broken = Plan([0, 1, 2, 3], [5, 5, 5, 3], [0] * 4, [9] * 4), Plan([1, 0], [1, 0], [0, 0], [9, 9])
        for plan, other in ((plan_of_three(), longer), (longer, plan_of_three()), (broken, longer), (longer, broken)):
            with self.assertRaises(InvalidNumber):
                shifts(plan, other)

    def test_plans_without_rows(self):
        for plan in rowless_plans():
            times = len(plan)
            good = Plan([0] * times, [0] * times, [0] * times, [0] * times)
            check_no_row(self, plan, shifts, good)
            check_no_row(self, plan, lambda told: shifts(good, told))
        first, second = Plan([2, 9, 9], [2, 9, 9], [0] * 3, [5] * 3), Plan([7, 9, 9], [7, 9, 9], [0] * 3, [5] * 3)
        self.assertNotEqual(broken_pairs(first)[0], broken_pairs(second)[0])
        for plan, other in ((first, second), (second, first)):
            check_no_row(self, plan, shifts, other)


class GeneralTest(unittest.TestCase):

    def test_plans_without_rows(self):
        for plan in rowless_plans():
            check_no_row(self, plan, needless)
            check_no_row(self, plan, idle)
            for time in {1, len(plan) - 1} - {0, len(plan)}:
                for side in SIDES:
                    check_no_row(self, plan, room_of, time, side)
                with self.assertRaises(InvalidSide):
                    room_of(plan, time, "other")
            for time in (0, len(plan)):
                with self.assertRaises(InvalidTime):
                    room_of(plan, time, "low")
        with self.assertRaises(NoRow):
            needless(Plan([4], [4], [0], [3]))

    def test_arguments_stay_and_lists_are_new(self):
        plan = plan_of_three()
        for call in (lambda: needless(plan), lambda: idle(plan), lambda: shifts(plan, plan)):
            told = call()
            told.append(None)
            self.assertEqual(call(), told[:-1])
        moved_bound(plan, 1, "low", 3), room_of(plan, 1, "low")
        self.assertEqual(lists_of(plan), lists_of(plan_of_three()))

    def test_defined_in_the_file(self):
        for call in (room_of, needless, idle, moved_bound, shifts):
            self.assertEqual(call.__module__, "evenbits.bounds")
            self.assertIs(getattr(bounds, call.__name__), call)

    def test_tuples(self):
        plan = plan_of_three()
        for bound in needless(plan) + idle(plan):
            self.assertIsInstance(bound, tuple)
        self.assertEqual(all_rows(plan)[0], [0, 3, 3])


if __name__ == "__main__":
    unittest.main()
