"""Points 3, 4 (R2, R3) and 11: prices, what rows cost, and what they have above and below a rate."""

import unittest

from evenbits import prices
from evenbits.best import best_entries, best_row, latest_row
from evenbits.errors import InvalidNumber, InvalidPrice, InvalidRow, InvalidTime
from evenbits.judges import compare
from evenbits.plans import Plan
from evenbits.prices import (
    bound_by, cost_of, excess, excess_paper, is_price, least_cost, price_at, shortfall, telling_rate, tops)
from evenbits.rows import emptiest, fullest
from helpers import (
    GREAT, WHOLE_LISTS, Numbers, above, all_pairs, all_rows, any_objects, band_plans, below, best_by_swaps,
    check_no_row, drawn_price, drawn_prices, few_times_plans, lists_of, long_plans, many_times_plans, no_prices,
    rowless_plans, tried_swaps, walked_swaps)


def plan_of_three():
    return Plan([0, 0, 7], [7, 7, 7], [0, 0, 0], [9, 9, 9])


def stepped_price(price, value):
    """What the price of an entry is, going from 0 to it in steps of 1."""
    slope, corners = price
    told, at = 0, 0
    while at < value:
        told += slope + sum(more for corner, more in corners if at >= corner)
        at += 1
    while at > value:
        at -= 1
        told -= slope + sum(more for corner, more in corners if at >= corner)
    return told


def naive_bound(plan, rate, pairs):
    low, high = [0] + plan.low, [0] + plan.high
    told = sum(max(0, least - rate) for least in plan.least)
    for s, t in pairs:
        told += low[t] - high[s]
        for time in range(s + 1, t + 1):
            told -= min(plan.most[time - 1], max(plan.least[time - 1], rate))
    return told


def drawn_pairs(numbers, times):
    pairs, at = [], 0
    while at < times:
        s = numbers.between(at, times - 1)
        t = numbers.between(s + 1, times)
        pairs.append((s, t))
        at = t + (0 if numbers.between(0, 2) else 1)
    return pairs[:numbers.between(0, len(pairs))]


class PriceTest(unittest.TestCase):

    def test_prices(self):
        twelve = [(value, 1) for value in range(-6, 6)]
        for price in ((0, []), (-5, []), (GREAT, [(0, 1)]), (-GREAT, [(-GREAT, GREAT), (GREAT, GREAT)]),
                      (3, [(-2, 1), (-1, 5), (0, 1), (7, 2)]), (0, twelve), (1, twelve[:11])):
            self.assertIs(is_price(price), True, msg=price)
        self.assertIs(is_price(thing=(0, [(1, 1)])), True)

    def test_drawn_prices(self):
        numbers = Numbers(91)
        for size in (9, GREAT):
            for price in drawn_prices(numbers, size):
                self.assertIs(is_price(price), True)

    def test_no_prices(self):
        for thing in no_prices():
            self.assertIs(is_price(thing), False, msg=repr(thing)[:100])

    def test_examples(self):
        price = (2, [(-1, 3), (4, 5)])
        self.assertEqual([price_at(price, value) for value in (-3, -1, 0, 1, 4, 5, 6)], [-9, -5, 0, 5, 20, 30, 40])
        self.assertEqual(price_at(value=7, price=(3, [])), 21)
        self.assertEqual(cost_of([0, 6, -3], price), 31)
        self.assertEqual(cost_of(price=price, row=[5]), 30)
        self.assertEqual(cost_of([GREAT], (GREAT, [(0, GREAT)])), 2 * GREAT * GREAT)

    def test_step_by_step(self):
        numbers = Numbers(92)
        for price in drawn_prices(numbers, 7) + drawn_prices(numbers, 20):
            for value in range(-25, 26):
                self.assertEqual(price_at(price, value), stepped_price(price, value))
            row = numbers.listed(numbers.between(1, 9), -30, 30)
            self.assertEqual(cost_of(row, price), sum(stepped_price(price, entry) for entry in row))
            self.assertEqual(price_at(price, 0), 0)

    def test_great_prices_are_convex(self):
        numbers = Numbers(93)
        for price in drawn_prices(numbers, 10 ** 28):
            for value in [corner for corner, _ in price[1]] + [0, GREAT, -GREAT]:
                told = [price_at(price, value + by) for by in (-2, -1, 0, 1, 2)]
                steps = [two - one for one, two in zip(told, told[1:])]
                self.assertEqual(steps, sorted(steps))
                more = dict(price[1]).get(value, 0)
                self.assertEqual(steps[2] - steps[1], more)

    def test_errors(self):
        for thing in no_prices():
            for call in (lambda: price_at(thing, 3), lambda: price_at(thing, None), lambda: cost_of([1, 2], thing),
                         lambda: least_cost(plan_of_three(), thing)):
                with self.assertRaises(InvalidPrice, msg=repr(thing)[:100]):
                    call()
        for value in (True, False, None, "1", [1]):
            with self.assertRaises(InvalidNumber):
                price_at((0, []), value)
        for thing in any_objects():
            if thing not in WHOLE_LISTS:
                for price in ((0, []), None):
                    with self.assertRaises(InvalidRow, msg=repr(thing)[:100]):
                        cost_of(thing, price)

    def test_lists_that_were_told_may_change(self):
        corners = [(1, 1), (3, 2)]
        price = (1, corners)
        self.assertEqual(price_at(price, 4), 9)
        corners.append((5, 1))
        self.assertEqual((price_at(price, 6), corners), (18, [(1, 1), (3, 2), (5, 1)]))
        corners.append((5, 1))
        self.assertIs(is_price(price), False)


class LeastCostTest(unittest.TestCase):

    def test_examples(self):
        self.assertEqual(least_cost(plan_of_three(), (0, [(2, 1)])), 1)
        self.assertEqual(least_cost(plan=plan_of_three(), price=(1, [])), 7)

    def test_no_row_costs_less(self):
        numbers = Numbers(94)
        for plan in few_times_plans():
            rows = all_rows(plan)
            for _ in range(5):
                price = drawn_price(numbers, numbers.between(0, 12), 4)
                self.assertEqual(least_cost(plan, price), min(cost_of(row, price) for row in rows))
                self.assertEqual({cost_of(row, price) for row in best_by_swaps(plan)}, {least_cost(plan, price)})

    def test_plans_of_many_times(self):
        numbers = Numbers(95)
        for plan in many_times_plans() + long_plans()[::2]:
            size = max(9, max(plan.most), -min(plan.least))
            for corners in (0, 1, 5, 12):
                price = drawn_price(numbers, corners, size)
                least = least_cost(plan, price)
                self.assertEqual(least, cost_of(best_row(plan), price))
                self.assertEqual(least, cost_of(latest_row(plan), price))
                for row in (fullest(plan), emptiest(plan)):
                    self.assertLessEqual(least, cost_of(row, price))


class ExcessTest(unittest.TestCase):

    def rates_of(self, numbers, plan):
        entries = best_entries(plan)
        near = [numbers.one_of(entries) + by for by in (-2, -1, 0, 1, 2)]
        own = [numbers.one_of(plan.least), numbers.one_of(plan.most)]
        return near + own + [0, GREAT, -GREAT, entries[0], entries[-1], min(plan.least) - 1, max(plan.most) + 1]

    def test_examples(self):
        plan = plan_of_three()
        self.assertEqual([excess(plan, rate) for rate in (-1, 0, 1, 2, 3, 4)], [10, 7, 4, 1, 0, 0])
        self.assertEqual([shortfall(plan, rate) for rate in (-1, 0, 1, 2, 3, 4)], [0, 0, 0, 0, 2, 5])
        self.assertEqual((excess(rate=2, plan=plan), shortfall(rate=3, plan=plan)), (1, 2))
        self.assertEqual(bound_by(plan, 2, [(0, 3)]), 1)
        self.assertEqual(bound_by(pairs=[], rate=-2, plan=plan), 6)
        self.assertEqual(bound_by(plan, 2, [(0, 1), (1, 3)]), -6)
        self.assertEqual(bound_by(plan, 2, [(0, 3)]), excess(plan, 2))

    def test_by_trying(self):
        for plan in few_times_plans():
            rows = all_rows(plan)
            for rate in range(min(plan.least) - 2, max(plan.most) + 3):
                self.assertEqual(excess(plan, rate), min(above(row, rate) for row in rows))
                self.assertEqual(shortfall(plan, rate), min(below(row, rate) for row in rows))

    def check_paper(self, plan, rate):
        pairs = excess_paper(plan, rate)
        self.assertIsInstance(pairs, list)
        self.assertTrue(all(isinstance(pair, tuple) and len(pair) == 2 for pair in pairs))
        ends = [0] + [time for pair in pairs for time in pair] + [len(plan)]
        self.assertTrue(all(s < t for s, t in pairs) and ends == sorted(ends))
        told = above(best_row(plan), rate)
        self.assertEqual(naive_bound(plan, rate, pairs), told, msg=(lists_of(plan), rate))
        self.assertEqual(bound_by(plan, rate, pairs), told)
        self.assertEqual(excess(plan, rate), told)
        self.assertEqual(shortfall(plan, rate), below(latest_row(plan), rate))
        self.assertEqual(excess_paper(rate=rate, plan=plan), pairs)

    def test_papers_of_small_plans(self):
        for plan in few_times_plans():
            for rate in range(min(plan.least) - 2, max(plan.most) + 3):
                self.check_paper(plan, rate)

    def test_papers_of_plans_of_many_times(self):
        numbers = Numbers(96)
        for plan in many_times_plans() + long_plans()[::2] + [plan for plan, _ in band_plans(100)]:
            for rate in self.rates_of(numbers, plan):
                self.check_paper(plan, rate)

    def test_no_list_of_pairs_shows_more(self):
        for plan in few_times_plans()[::2]:
            lists = all_pairs(len(plan))
            for rate in range(min(plan.least) - 1, max(plan.most) + 2):
                told = [bound_by(plan, rate, pairs) for pairs in lists]
                self.assertEqual(told, [naive_bound(plan, rate, pairs) for pairs in lists])
                self.assertEqual(max(told), excess(plan, rate))

    def test_drawn_pairs(self):
        numbers = Numbers(97)
        for plan in many_times_plans() + long_plans() + rowless_plans():
            for _ in range(5):
                pairs = drawn_pairs(numbers, len(plan))
                rate = numbers.wide(min(plan.least) - 2, max(plan.most) + 2)
                kept = list(pairs)
                self.assertEqual(bound_by(plan, rate, pairs), naive_bound(plan, rate, kept))
                self.assertEqual(pairs, kept)

    def test_no_drawn_pairs_show_more(self):
        numbers = Numbers(98)
        for plan in many_times_plans():
            for rate in self.rates_of(numbers, plan):
                told = [bound_by(plan, rate, drawn_pairs(numbers, len(plan))) for _ in range(5)]
                self.assertLessEqual(max(told), excess(plan, rate))

    def test_no_pairs(self):
        wrong = [[(0, 0)], [(1, 1)], [(2, 1)], [(-1, 2)], [(0, 4)], [(3, 4)], [(0, 2), (1, 3)], [(1, 3), (0, 1)],
                 [(0, 1), (0, 1)], [(0, 1), (2, 2)], [[0, 3]], [(0, 3), None], [(0, 3, 3)], [(0,)], [()], [0, 3],
                 ((0, 3),), (0, 3), [(False, 3)], [(0, True)], [("0", 3)], [(0, None)], [(0, 3), [3, 3]], {0: 3},
                 [(0, GREAT)], [(-GREAT, 3)], [(0, [3])], [(plan_of_three(), 3)], [(0, 1), (1, 2), (2, 3), (3, 4)]]
        for thing in wrong + [thing for thing in any_objects() if thing != []]:
            with self.assertRaises(InvalidTime, msg=repr(thing)[:100]):
                bound_by(plan_of_three(), 2, thing)
        self.assertEqual(bound_by(plan_of_three(), 2, []), 0)
        self.assertEqual(bound_by(plan_of_three(), 2, [(0, 1), (1, 2), (2, 3)]), -13)

    def test_wrong_rates(self):
        for rate in (True, False, None, "1", [1], (1,)):
            for plan in (plan_of_three(), rowless_plans()[0]):
                for call in (excess, shortfall, excess_paper):
                    with self.assertRaises(InvalidNumber):
                        call(plan, rate)
                for pairs in ([], None):
                    with self.assertRaises(InvalidNumber):
                        bound_by(plan, rate, pairs)

    def test_of_derived_plans(self):
        for plan in few_times_plans()[::4] + many_times_plans()[::5]:
            for rate in (dip_rate(plan), 0, 1, dip_rate(plan) + 2):
                self.assertEqual(excess(plan.turned(), rate), excess(plan, rate))
                self.assertEqual(excess(plan.lifted(5), rate + 5), excess(plan, rate))
                self.assertEqual(excess(plan.negated(), -rate), shortfall(plan, rate))
                self.assertLessEqual(excess(plan.multiplied(3), 3 * rate), 3 * excess(plan, rate))
                self.assertEqual(excess(plan.joined(plan), rate), 2 * excess(plan, rate))


def dip_rate(plan):
    return best_entries(plan)[0]


class TopsTest(unittest.TestCase):

    def test_examples(self):
        self.assertEqual([tops(plan_of_three(), number) for number in range(4)], [0, 3, 5, 7])
        self.assertEqual(tops(number=1, plan=plan_of_three()), 3)

    def test_by_trying(self):
        for plan in few_times_plans():
            for row in best_by_swaps(plan):
                told = [sum(sorted(row)[len(row) - number:]) for number in range(len(row) + 1)]
                self.assertEqual([tops(plan, number) for number in range(len(plan) + 1)], told)
            for number in range(len(plan) + 1):
                least = min(sum(sorted(row)[len(row) - number:]) for row in all_rows(plan))
                self.assertEqual(tops(plan, number), least)

    def test_plans_of_many_times(self):
        for plan in many_times_plans()[::4] + long_plans()[::3]:
            entries = sorted(best_row(plan), reverse=True)
            for number in (0, 1, 2, len(plan) - 1, len(plan)):
                self.assertEqual(tops(plan, number), sum(entries[:number]))

    def test_wrong_numbers(self):
        for number in (-1, 4, GREAT, -GREAT, True, None, "1"):
            with self.assertRaises(InvalidNumber):
                tops(plan_of_three(), number)


class TellingRateTest(unittest.TestCase):

    def test_examples(self):
        self.assertIsNone(telling_rate(plan_of_three(), [3, 2, 2]))
        self.assertEqual(telling_rate(plan_of_three(), [3, 1, 3]), 2)
        self.assertEqual(telling_rate(plan_of_three(), [7, 0, 0]), 1)
        self.assertEqual(telling_rate(row=[2, 0, 5], plan=plan_of_three()), 1)

    def test_every_row_by_all_rates(self):
        for plan in few_times_plans():
            rates = range(min(plan.least) - 3, max(plan.most) + 4)
            least = {rate: excess(plan, rate) for rate in rates}
            for row in all_rows(plan):
                telling = [rate for rate in rates if above(row, rate) > least[rate]]
                self.assertEqual(telling_rate(plan, row), telling[0] if telling else None)
                self.assertEqual(telling == [], not tried_swaps(plan, row))

    def test_rows_of_many_times(self):
        for plan in many_times_plans() + long_plans():
            for row in (fullest(plan), emptiest(plan), best_row(plan), latest_row(plan)):
                rate = telling_rate(plan, row)
                self.assertEqual(rate is None, walked_swaps(plan, row) == [])
                if rate is not None:
                    self.assertGreater(above(row, rate), excess(plan, rate))
                    for lesser in (rate - 1, rate - 2, min(plan.least)):
                        self.assertEqual(above(row, lesser), excess(plan, lesser))
                    self.assertEqual(compare(row, best_row(plan)), "less even")

    def test_no_row_of_the_plan(self):
        for thing in any_objects() + [[3, 2, 3], [8, -1, 0], [3, 2, 2, 0], (3, 2, 2)]:
            with self.assertRaises(InvalidRow, msg=repr(thing)[:100]):
                telling_rate(plan_of_three(), thing)


class GeneralTest(unittest.TestCase):

    def test_plans_without_rows(self):
        for plan in rowless_plans():
            for rate in (0, GREAT, -GREAT):
                for call in (excess, shortfall, excess_paper):
                    check_no_row(self, plan, call, rate)
                self.assertEqual(bound_by(plan, rate, []), sum(max(0, least - rate) for least in plan.least))
            check_no_row(self, plan, least_cost, (0, []))
            for number in (0, len(plan)):
                check_no_row(self, plan, tops, number)
            for row in ([0] * len(plan), None, [], [True], "row"):
                check_no_row(self, plan, telling_rate, row)

    def test_other_errors_come_before_the_rows(self):
        for plan in rowless_plans()[::5]:
            for number in (-1, len(plan) + 1, True):
                with self.assertRaises(InvalidNumber):
                    tops(plan, number)
            for price in (None, (0, None), (0, [(1, 0)])):
                with self.assertRaises(InvalidPrice):
                    least_cost(plan, price)
            for pairs in (None, [(0, len(plan) + 1)], [(1, 1)]):
                with self.assertRaises(InvalidTime):
                    bound_by(plan, 0, pairs)

    def test_a_plan_without_rows_shows_more_at_some_rate(self):
        """The pair of NoRow shows more above the greatest rate than a row could have."""
        plan = Plan([2, 9], [2, 9], [0, 0], [5, 5])
        self.assertEqual(bound_by(plan, 5, [(1, 2)]), 2)

    def test_arguments_stay_and_lists_are_new(self):
        plan, price, row, pairs = plan_of_three(), (0, [(1, 1)]), [3, 1, 3], [(0, 3)]
        excess(plan, 2), shortfall(plan, 2), bound_by(plan, 2, pairs), tops(plan, 1), telling_rate(plan, row)
        cost_of(row, price), least_cost(plan, price), price_at(price, 5), is_price(price)
        told = excess_paper(plan, 2)
        told.append(None)
        self.assertEqual(excess_paper(plan, 2), told[:-1])
        self.assertEqual((plan, price, row, pairs), (plan_of_three(), (0, [(1, 1)]), [3, 1, 3], [(0, 3)]))

    def test_defined_in_the_file(self):
        for call in (is_price, price_at, cost_of, least_cost, excess, shortfall, excess_paper, bound_by, tops,
                     telling_rate):
            self.assertEqual(call.__module__, "evenbits.prices")
            self.assertIs(getattr(prices, call.__name__), call)


if __name__ == "__main__":
    unittest.main()
