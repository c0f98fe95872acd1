"""Points 3, 4 (above all R6) and 16: beginnings of plans, and rows that are made with few times seen."""

import unittest

from evenbits import live
from evenbits.best import best_row, latest_row
from evenbits.errors import InvalidNumber, InvalidPlan, InvalidPrice, NothingToUndo
from evenbits.live import Sender, live_row, loss_of
from evenbits.plans import Plan
from evenbits.prices import cost_of, least_cost
from helpers import (
    GREAT, Numbers, all_rows, all_sums, any_objects, best_by_swaps, check_no_row, cost_by, drawn_price, few_times_plans,
    fits, lists_of, made_plan, many_times_plans, no_prices, rowless_plans, roomy_plans, small_plans)


def times_of(plan):
    """The bounds of each time as four numbers."""
    return list(zip(*lists_of(plan)))


def told_of(sender):
    return sender.known, sender.reach, sender.sure, sender.first_open, len(sender)


def sender_of(times):
    sender = Sender()
    for bounds in times:
        sender.add(*bounds)
    return sender


def plan_from(times, total=None):
    """The plan of times; with a total, the one that ends so."""
    low, high, least, most = [list(bounds) for bounds in zip(*times)]
    if total is not None:
        low[-1] = high[-1] = total
    return Plan(low, high, least, most)


def begun_sums(times):
    """All sums at the last time of the rows of a beginning, by trying."""
    sums = {0}
    for low, high, least, most in times:
        sums = {amount + entry for amount in sums for entry in range(least, most + 1)
                if low <= amount + entry <= high}
    return sums


def sure_by_trying(times):
    """For each time the sum that is the same in all best rows, whatever sum the beginning ends with, or None."""
    found = [set() for _ in times]
    for total in begun_sums(times):
        for row in best_by_swaps(plan_from(times, total)):
            for sums, amount in zip(found, all_sums(row)):
                sums.add(amount)
    return tuple(min(sums) if len(sums) == 1 else None for sums in found)


def small_beginnings():
    """Beginnings of one to four times with small numbers, whose last bounds may differ."""
    numbers, found = Numbers(161), []
    for plan in roomy_plans(162, 120) + [plan for plan in small_plans(163, 150) if len(plan) < 5]:
        times = times_of(plan)
        low, high, least, most = times[-1]
        times[-1] = (low - numbers.between(0, 2), high + numbers.between(0, 3), least, most)
        if all(begun_sums(times[:many]) for many in range(1, len(times) + 1)):
            found.append(times)
    return found


def great_beginnings():
    """Plans of up to 30 times with numbers of up to 24 digits, some of them tight here and there."""
    numbers = Numbers(164)
    found = []
    for size in (5, 10 ** 23):
        for slack in (1, size // 2 + 1, 3 * size):
            for reach in (1, size):
                plan = made_plan(numbers, numbers.between(8, 30), size, slack, reach)
                found.append(plan)
                low, high, least, most = lists_of(plan)
                at = numbers.between(2, len(plan) - 3)
                row = best_row(plan)
                low[at] = high[at] = all_sums(row)[at]
                found.append(Plan(low, high, least, most))
    return found


class SenderTest(unittest.TestCase):

    def test_no_times(self):
        sender = Sender()
        self.assertEqual(told_of(sender), (0, (0, 0), (), None, 0))

    def test_examples(self):
        sender = Sender()
        self.assertIsNone(sender.add(0, 9, 0, 9))
        self.assertEqual(told_of(sender), (1, (0, 9), (None,), 1, 1))
        sender.add(most=9, least=0, high=9, low=5)
        self.assertEqual(told_of(sender), (2, (5, 9), (None, None), 1, 2))
        sender.add(0, 2, -9, 9)
        self.assertEqual(told_of(sender), (3, (0, 2), (None, 5, None), 1, 3))
        sender.add(0, 99, 0, 4)
        self.assertEqual(told_of(sender), (4, (0, 6), (None, 5, None, None), 1, 4))

    def test_all_sums_are_sure(self):
        sender = sender_of([(4, 4, 0, 9), (6, 6, 0, 9)])
        self.assertEqual(told_of(sender), (2, (6, 6), (4, 6), None, 2))
        sender.add(0, 9, 0, 9)
        self.assertEqual(told_of(sender), (3, (6, 9), (4, 6, None), 3, 3))
        self.assertEqual(told_of(sender_of([(-GREAT, GREAT, 5, 5)])), (1, (5, 5), (5,), None, 1))

    def test_kinds(self):
        sender = sender_of([(0, 9, 0, 9), (5, 5, 0, 9)])
        self.assertIsInstance(sender.reach, tuple)
        self.assertIsInstance(sender.sure, tuple)
        self.assertIs(type(sender.first_open), int)

    def test_by_trying_after_each_add(self):
        tried = 0
        for times in small_beginnings():
            sender = Sender()
            for known, bounds in enumerate(times, start=1):
                sender.add(*bounds)
                sums, sure = begun_sums(times[:known]), sure_by_trying(times[:known])
                opened = [time for time, amount in enumerate(sure, start=1) if amount is None]
                first = opened[0] if opened else None
                self.assertEqual(told_of(sender), (known, (min(sums), max(sums)), sure, first, known))
                tried += len(opened) < known
        self.assertGreater(tried, 30)

    def test_sure_sums_stay_sure(self):
        for plan in great_beginnings():
            sender, before = Sender(), ()
            for bounds in times_of(plan):
                sender.add(*bounds)
                for one, two in zip(before, sender.sure):
                    self.assertTrue(one is None or one == two)
                before = sender.sure
            self.assertEqual(sender.reach, (plan.total, plan.total))

    def test_plans_that_begin_so(self):
        numbers, open_ones, sure_ones = Numbers(165), 0, 0
        for plan in great_beginnings():
            times = times_of(plan)
            for known in {2, len(times) // 2, len(times) - 2}:
                sender = sender_of(times[:known])
                lo, hi = sender.reach
                ends = [plan_from(times[:known], total) for total in (lo, hi, (lo + hi) // 2)]
                going_on = [plan] + [longer_plan(numbers, times[:known], sender.reach) for _ in range(3)]
                for other in ends + going_on:
                    for row in (best_row(other), latest_row(other)):
                        for sure, amount in zip(sender.sure, all_sums(row)):
                            self.assertTrue(sure is None or sure == amount)
                for time, sure in enumerate(sender.sure, start=1):
                    sure_ones += sure is not None
                    if sure is None:
                        open_ones += 1
                        least, most = all_sums(latest_row(ends[0])), all_sums(best_row(ends[1]))
                        self.assertLess(least[time - 1], most[time - 1])
        self.assertGreater(min(open_ones, sure_ones), 50)

    def test_undo(self):
        for times in small_beginnings()[::5]:
            sender, told = Sender(), []
            for bounds in times:
                told.append(told_of(sender))
                sender.add(*bounds)
            while told:
                self.assertIsNone(sender.undo())
                self.assertEqual(told_of(sender), told.pop())
            with self.assertRaises(NothingToUndo):
                sender.undo()
            self.assertEqual(told_of(sender), told_of(Sender()))

    def test_add_behind_undo(self):
        sender = sender_of([(0, 9, 0, 9), (5, 5, 0, 9), (0, 7, 0, 9)])
        sender.undo()
        sender.undo()
        sender.add(6, 6, 0, 9)
        self.assertEqual(told_of(sender), told_of(sender_of([(0, 9, 0, 9), (6, 6, 0, 9)])))

    def test_nothing_to_undo_changes_nothing(self):
        sender = Sender()
        for _ in range(3):
            with self.assertRaises(NothingToUndo):
                sender.undo()
        self.assertEqual(told_of(sender), told_of(Sender()))
        sender.add(1, 4, 0, 3)
        self.assertEqual(told_of(sender), (1, (1, 3), (None,), 1, 1))

    def test_twins_go_on_apart(self):
        sender = sender_of([(0, 9, 0, 9), (5, 5, 0, 9)])
        twin = sender.twin()
        self.assertIsInstance(twin, Sender)
        self.assertIsNot(twin, sender)
        self.assertNotEqual(twin, sender)
        told = told_of(sender)
        self.assertEqual(told_of(twin), told)
        twin.add(6, 8, 0, 9)
        self.assertEqual(told_of(sender), told)
        self.assertEqual(told_of(twin), (3, (6, 8), (None, 5, None), 1, 3))
        sender.undo()
        sender.undo()
        self.assertEqual((len(sender), len(twin)), (0, 3))
        for known in (2, 1, 0):
            twin.undo()
            self.assertEqual(twin.known, known)
        sender.add(1, 1, 1, 1)
        self.assertEqual(told_of(twin), told_of(Sender()))
        self.assertEqual(told_of(Sender().twin()), told_of(Sender()))

    def test_twin_of_a_twin(self):
        sender = sender_of([(0, 3, 0, 9)])
        twin = sender.twin().twin()
        sender.undo()
        self.assertEqual(twin.reach, (0, 3))
        twin.undo()
        with self.assertRaises(NothingToUndo):
            twin.undo()

    def test_compared_by_identity(self):
        one, two = Sender(), Sender()
        self.assertFalse(one == two)
        self.assertTrue(one == one)

    def test_wrong_bounds_at_the_begin_and_behind_some_times(self):
        wrong = [bounds[:at] + (thing,) + bounds[at + 1:] for bounds in [(0, 9, 0, 9)] for at in range(4)
                 for thing in any_objects() if not isinstance(thing, int) or isinstance(thing, bool)]
        wrong += [(1, 0, 0, 9), (GREAT, -GREAT, 0, 9), (0, 9, 1, 0), (0, 9, 9, 8), (0, 9, GREAT, -GREAT),
                  (True, True, True, True), (None, None, None, None), (5, 4, 3, 2)]
        for times in ([], [(0, 9, 0, 9)], [(0, 9, 0, 9), (3, 5, 0, 9)]):
            sender = sender_of(times)
            told = told_of(sender)
            for bounds in wrong:
                with self.assertRaises(InvalidPlan, msg=repr(bounds)[:100]):
                    sender.add(*bounds)
                self.assertEqual(told_of(sender), told)
            sender.add(4, 5, 0, 9)
            self.assertEqual(sender.known, len(times) + 1)

    def test_bounds_that_leave_no_row(self):
        sender = Sender()
        for bounds in ((1, 5, -3, 0), (-5, -1, 0, 3), (GREAT, GREAT, 0, GREAT - 1), (6, 9, 1, 5), (-9, 3, 4, 5)):
            with self.assertRaises(InvalidPlan):
                sender.add(*bounds)
            self.assertEqual(told_of(sender), told_of(Sender()))
        sender.add(2, 4, 0, 9)
        told = told_of(sender)
        for bounds in ((10, 20, 0, 5), (-5, 1, 0, 5), (8, 8, 2, 3), (0, 4, 3, 9), (8, 8, 0, 3), (-GREAT, 1, 0, 0)):
            with self.assertRaises(InvalidPlan):
                sender.add(*bounds)
            self.assertEqual(told_of(sender), told)
        sender.add(7, 7, 2, 3)
        self.assertEqual(sender.reach, (7, 7))

    def test_undo_behind_refused_calls(self):
        sender = sender_of([(0, 9, 0, 9), (5, 5, 0, 9)])
        with self.assertRaises(InvalidPlan):
            sender.add(0, 4, 0, 9)
        with self.assertRaises(InvalidPlan):
            sender.add(0, True, 0, 9)
        sender.undo()
        self.assertEqual(told_of(sender), (1, (0, 9), (None,), 1, 1))

    def test_sixty_times(self):
        sender = sender_of([(3 * time - 2, 3 * time, 0, 9) for time in range(1, 61)])
        self.assertEqual((sender.known, len(sender), sender.reach), (60, 60, (178, 180)))
        twin = sender.twin()
        twin.add(200, 300, 0, 20)
        self.assertEqual((len(twin), twin.reach, len(sender)), (61, (200, 200), 60))

    def test_methods_are_its_own(self):
        for name in ("add", "known", "reach", "sure", "first_open", "undo", "twin", "__len__"):
            self.assertIn(name, vars(Sender))


def longer_plan(numbers, times, reach):
    """A plan that begins so and goes on to a drawn sum."""
    lo, hi = reach
    amount, more = numbers.wide(lo, hi), []
    size = 1 + max(abs(bound) for bounds in times for bound in bounds)
    for _ in range(numbers.between(1, 6)):
        entry = numbers.wide(-size, size)
        amount += entry
        more.append((amount - numbers.wide(0, size), amount + numbers.wide(0, size),
                     entry - numbers.wide(0, size), entry + numbers.wide(0, size)))
    return plan_from(list(times) + more, amount)


def live_by_trying(plan, ahead):
    """The live row by its words: all rows of the times that are seen are tried."""
    rows, made = all_rows(plan), []
    for time in range(1, len(plan) + 1):
        until = min(len(plan), time + ahead)
        so_far, rows = sum(made), [row for row in rows if row[:len(made)] == made]
        total = min(sum(row[:until]) for row in rows)
        low, high, least, most = [bounds[time - 1:until] for bounds in lists_of(plan)]
        low, high = [bound - so_far for bound in low], [bound - so_far for bound in high]
        low[-1] = high[-1] = total - so_far
        made.append(min(best_by_swaps(Plan(low, high, least, most)), key=all_sums)[0])
    return made


def drawn_plans():
    """Plans of up to 46 times with numbers of up to 24 digits."""
    numbers = Numbers(166)
    found = [made_plan(numbers, numbers.between(2, 20), size, slack, reach)
             for size in (4, 10 ** 23) for slack in (2, 4 * size) for reach in (1, size)]
    return found + [made_plan(numbers, 46, 6, 20, 6), made_plan(numbers, 46, 10 ** 23, 10 ** 23, 10 ** 23)]


class LiveRowTest(unittest.TestCase):

    def test_examples(self):
        plan = Plan([0, 5, 0, 8], [9, 9, 9, 8], [0] * 4, [9] * 4)
        self.assertEqual([live_row(plan, ahead) for ahead in (0, 1, 3, 9)],
                         [[0, 5, 0, 3], [2, 3, 1, 2], [2, 3, 1, 2], [2, 3, 1, 2]])
        self.assertEqual(live_row(ahead=0, plan=plan), [0, 5, 0, 3])
        self.assertEqual(live_row(Plan([7], [7], [0], [9]), 0), [7])

    def test_least_sums_until_the_time_that_is_seen(self):
        plan = Plan([0, 0, 6, 6], [9, 9, 9, 6], [0] * 4, [9] * 4)
        self.assertEqual([live_row(plan, ahead) for ahead in range(4)],
                         [[0, 0, 6, 0], [0, 3, 3, 0], [2, 2, 2, 0], [2, 2, 2, 0]])

    def test_a_sum_that_the_times_behind_need(self):
        plan = Plan([0, 0, 9], [9, 9, 9], [0, 0, 0], [9, 9, 2])
        self.assertEqual([live_row(plan, ahead) for ahead in range(3)], [[0, 7, 2], [3, 4, 2], [3, 4, 2]])

    def test_small_plans_by_trying(self):
        for plan in few_times_plans():
            for ahead in range(len(plan) + 2):
                self.assertEqual(live_row(plan, ahead), live_by_trying(plan, ahead))

    def test_all_times_seen(self):
        for plan in drawn_plans() + many_times_plans()[::4]:
            for ahead in (len(plan) - 1, len(plan), len(plan) + 7, GREAT):
                self.assertEqual(live_row(plan, ahead), latest_row(plan))

    def test_great_plans(self):
        for plan in drawn_plans():
            for ahead in (0, 1, 4, len(plan) // 2):
                row = live_row(plan, ahead)
                self.assertTrue(fits(plan, row))
                self.assertEqual(row, told_live_row(plan, ahead))

    def test_wrong_numbers(self):
        plan = Plan([7], [7], [0], [9])
        for told in [plan] + rowless_plans()[::4]:
            for ahead in (-1, -GREAT, True, False, None, "1", [0]):
                with self.assertRaises(InvalidNumber):
                    live_row(told, ahead)
                for price in ((0, []), None):
                    with self.assertRaises(InvalidNumber):
                        loss_of(told, ahead, price)


def told_live_row(plan, ahead):
    """The live row step by step, with the rest of the plan made anew for each entry."""
    made = []
    for time in range(1, len(plan) + 1):
        until = min(len(plan), time + ahead)
        low, high, least, most = lists_of(plan)
        so_far = sum(made)
        if made:
            low[time - 2] = high[time - 2] = so_far
        bottom = least_sum(low, high, least, most, until)
        low, high = low[time - 1:until], high[time - 1:until]
        low[-1] = high[-1] = bottom
        seen = Plan([bound - so_far for bound in low], [bound - so_far for bound in high],
                    least[time - 1:until], most[time - 1:until])
        made.append(latest_row(seen)[0])
    return made


def least_sum(low, high, least, most, until):
    """The least sum at a time from which the times behind it can be kept, and to which those before it come."""
    floor, ceiling = 0, 0
    for at in range(until):
        floor, ceiling = max(low[at], floor + least[at]), min(high[at], ceiling + most[at])
    behind = low[-1]
    for at in range(len(low) - 1, until - 1, -1):
        behind = max(low[at - 1], behind - most[at])
    return max(floor, behind)


class LossTest(unittest.TestCase):

    def test_examples(self):
        plan, price = Plan([0, 5, 0, 8], [9, 9, 9, 8], [0] * 4, [9] * 4), (0, [(1, 1), (2, 3)])
        self.assertEqual([loss_of(plan, ahead, price) for ahead in range(3)], [11, 0, 0])
        self.assertEqual(loss_of(price=price, ahead=0, plan=plan), 11)
        self.assertEqual(loss_of(plan, 0, (-7, [])), 0)

    def test_small_plans_by_trying(self):
        numbers = Numbers(167)
        for plan in few_times_plans()[::2]:
            price = drawn_price(numbers, numbers.between(0, 12), 5)
            least = min(cost_by(row, price) for row in all_rows(plan))
            for ahead in range(len(plan) + 1):
                self.assertEqual(loss_of(plan, ahead, price), cost_by(live_by_trying(plan, ahead), price) - least)

    def test_great_plans(self):
        numbers = Numbers(168)
        for plan in drawn_plans():
            price = drawn_price(numbers, 7, max(plan.most))
            for ahead in (0, 2, len(plan)):
                loss = loss_of(plan, ahead, price)
                self.assertEqual(loss, cost_of(live_row(plan, ahead), price) - least_cost(plan, price))
                self.assertGreaterEqual(loss, 0)
            self.assertEqual(loss_of(plan, len(plan), price), 0)

    def test_wrong_prices(self):
        for price in no_prices():
            for plan in [Plan([7], [7], [0], [9])] + rowless_plans()[:2]:
                with self.assertRaises(InvalidPrice, msg=repr(price)[:100]):
                    loss_of(plan, 0, price)

    def test_plans_without_rows(self):
        for plan in rowless_plans():
            for ahead in (0, 1, len(plan), GREAT):
                check_no_row(self, plan, live_row, ahead)
                check_no_row(self, plan, loss_of, ahead, (0, [(1, 1)]))


class GeneralTest(unittest.TestCase):

    def test_arguments_stay_and_lists_are_new(self):
        plan, price = Plan([0, 5, 0, 8], [9, 9, 9, 8], [0] * 4, [9] * 4), (0, [(1, 1)])
        before = lists_of(plan)
        told = live_row(plan, 0)
        told.append(None)
        self.assertEqual(live_row(plan, 0), told[:-1])
        loss_of(plan, 1, price)
        self.assertEqual((lists_of(plan), price), (before, (0, [(1, 1)])))

    def test_defined_in_the_file(self):
        for call in (Sender, live_row, loss_of):
            self.assertEqual(call.__module__, "evenbits.live")
            self.assertIs(getattr(live, call.__name__), call)


if __name__ == "__main__":
    unittest.main()
