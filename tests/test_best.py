"""Points 3, 4 (R1, R2) and 8: best rows."""

import unittest
from unittest import mock

from evenbits import best
from evenbits.best import (
    best_entries, best_row, dip, inside_at, latest_row, levels_of, peak, plan_of_best, same_entries, stretches,
    tied_times)
from evenbits.plans import Plan
from evenbits.rows import emptiest, fullest, has_row
from helpers import (
    GREAT, Numbers, all_rows, all_sums, band_plans, best_by_swaps, check_no_row, few_times_plans, fits, lists_of,
    long_plans, many_times_plans, rowless_plans, small_plans, tried_swaps, walked_swaps)

CALLS = (best_row, latest_row, best_entries, tied_times, stretches, peak, dip, same_entries)


def plan_of_four():
    return Plan([0, 0, 0, 6], [6, 6, 6, 6], [0, 0, 0, 0], [9, 9, 9, 9])


def plans_of_five():
    return [plan for plan in small_plans(45, 300) if len(plan) == 5 and all_rows(plan)]


def tied_by(rows):
    sums = [all_sums(row) for row in rows]
    return [time for time in range(1, len(rows[0])) if len({told[time - 1] for told in sums}) == 1]


def stretches_by(rows):
    ends = [0] + tied_by(rows) + [len(rows[0])]
    found = []
    for first, last in zip(ends, ends[1:]):
        entries = [entry for row in rows for entry in row[first:last]]
        found.append((first, last, min(entries), max(entries)))
    return found


class ExamplesTest(unittest.TestCase):

    def test_roomy_plan(self):
        plan = plan_of_four()
        self.assertEqual(best_row(plan), [2, 2, 1, 1])
        self.assertEqual(latest_row(plan), [1, 1, 2, 2])
        self.assertEqual(best_entries(plan), [1, 1, 2, 2])
        self.assertEqual((tied_times(plan), stretches(plan)), ([], [(0, 4, 1, 2)]))
        self.assertEqual((peak(plan), dip(plan), same_entries(plan)), (2, 1, []))

    def test_plan_with_a_tie(self):
        plan = Plan([0, 5, 0, 8], [9, 9, 9, 8], [0, 0, 0, 0], [9, 9, 9, 9])
        self.assertEqual((best_row(plan), latest_row(plan)), ([3, 2, 2, 1], [2, 3, 1, 2]))
        self.assertEqual((tied_times(plan), stretches(plan)), ([2], [(0, 2, 2, 3), (2, 4, 1, 2)]))
        self.assertEqual((best_entries(plan), peak(plan), dip(plan)), ([1, 2, 2, 3], 3, 1))

    def test_bounds_of_entries(self):
        plan = Plan([-9, -9, 10], [20, 20, 10], [5, 0, 0], [9, 1, 9])
        self.assertEqual((best_row(plan), latest_row(plan)), ([5, 1, 4], [5, 1, 4]))
        self.assertEqual((same_entries(plan), tied_times(plan)), ([1, 2, 3], [1, 2]))
        self.assertEqual(stretches(plan), [(0, 1, 5, 5), (1, 2, 1, 1), (2, 3, 4, 4)])

    def test_entry_below_the_other_ones(self):
        plan = Plan([-9, -9, -9, 2], [9, 9, 9, 2], [-9, -9, -9, -9], [9, 9, -4, 9])
        self.assertEqual((best_row(plan), latest_row(plan)), ([2, 2, -4, 2], [2, 2, -4, 2]))
        plan = Plan([-9, -9, -9, 1], [9, 9, 9, 1], [-9, -9, -9, -9], [9, 9, -4, 9])
        self.assertEqual((best_row(plan), latest_row(plan)), ([2, 2, -4, 1], [1, 2, -4, 2]))
        self.assertEqual((same_entries(plan), stretches(plan)), ([3], [(0, 4, -4, 2)]))

    def test_one_time(self):
        plan = Plan([-5], [-5], [-9], [9])
        self.assertEqual((best_row(plan), latest_row(plan), best_entries(plan)), ([-5], [-5], [-5]))
        self.assertEqual((tied_times(plan), stretches(plan)), ([], [(0, 1, -5, -5)]))
        self.assertEqual((peak(plan), dip(plan), same_entries(plan)), (-5, -5, [1]))

    def test_by_name(self):
        for call in CALLS:
            self.assertEqual(call(plan=plan_of_four()), call(plan_of_four()))

    def test_kinds(self):
        self.assertIsInstance(stretches(plan_of_four())[0], tuple)
        self.assertTrue(all(isinstance(call(plan_of_four()), list) for call in CALLS if call not in (peak, dip)))


class ByTryingTest(unittest.TestCase):

    def check(self, plan):
        rows = best_by_swaps(plan)
        self.assertEqual(best_row(plan), max(rows), msg=lists_of(plan))
        self.assertEqual(latest_row(plan), min(rows), msg=lists_of(plan))
        for call, pick in ((best_row, max), (latest_row, min)):
            sums = [pick(column) for column in zip(*[all_sums(row) for row in rows])]
            self.assertEqual(all_sums(call(plan)), sums)
        self.assertEqual({tuple(sorted(row)) for row in rows}, {tuple(best_entries(plan))})
        self.assertEqual((peak(plan), dip(plan)), (max(rows[0]), min(rows[0])))
        self.assertEqual(tied_times(plan), tied_by(rows))
        self.assertEqual(stretches(plan), stretches_by(rows))
        same = [time for time in range(1, len(plan) + 1) if len({row[time - 1] for row in rows}) == 1]
        self.assertEqual(same_entries(plan), same)
        return len(rows)

    def test_plans_of_few_times(self):
        many = [self.check(plan) for plan in few_times_plans()]
        self.assertGreater(sum(count > 1 for count in many), 60)
        self.assertGreater(sum(count > 2 for count in many), 20)

    def test_plans_of_five_times(self):
        for plan in plans_of_five():
            self.check(plan)

    def test_plan_of_best(self):
        for plan in few_times_plans():
            self.assertEqual(all_rows(plan_of_best(plan)), best_by_swaps(plan))
            self.assertEqual(len(levels_of(plan)), len(plan))

    def test_swaps_that_are_walked(self):
        """The tests of plans of many times stand on them."""
        for plan in few_times_plans()[:80]:
            for row in all_rows(plan):
                for gap in (1, 2):
                    self.assertEqual(walked_swaps(plan, row, gap), tried_swaps(plan, row, gap))


def halved_levels(plan):
    """For each time the greatest rate at which it is inside, by halving the rates; one below all if there is none."""
    ranges = [(min(plan.least) - 1, max(plan.most) - 1)] * len(plan)
    while any(lowest < highest for lowest, highest in ranges):
        middles = {(lowest + highest + 1) // 2 for lowest, highest in ranges}
        told = {rate: inside_at(plan, rate) for rate in middles}
        for at, (lowest, highest) in enumerate(ranges):
            if lowest < highest:
                rate = (lowest + highest + 1) // 2
                ranges[at] = (rate, highest) if told[rate][at] else (lowest, rate - 1)
    return [lowest for lowest, _ in ranges]


class LevelsTest(unittest.TestCase):

    def test_halving_the_rates(self):
        plans = few_times_plans()[::2] + plans_of_five()[::3] + many_times_plans()[::2]
        for plan in plans + [plan.turned().negated() for plan in plans[::5]]:
            self.assertEqual(levels_of(plan), halved_levels(plan), msg=lists_of(plan))

    def test_each_rate(self):
        for plan in few_times_plans()[::2]:
            levels = levels_of(plan)
            for rate in range(min(plan.least) - 2, max(plan.most) + 3):
                inside = [rate <= level and level >= min(plan.least) for level in levels]
                if rate >= min(plan.least):
                    self.assertEqual(inside_at(plan, rate), inside)

    def test_steps_do_not_grow_with_the_digits(self):
        """Each part is cut twice at most before it comes apart or has its level; there are less than 2 n parts."""
        for plan in many_times_plans() + long_plans() + few_times_plans()[::9]:
            for told in (plan, plan.multiplied(10 ** 25), plan.lifted(GREAT)):
                with mock.patch.object(best, "_inside_part", wraps=best._inside_part) as cut:
                    levels_of(told)
                self.assertLess(cut.call_count, 4 * len(plan))


class ManyTimesTest(unittest.TestCase):

    def check_extremes(self, plan):
        most, least = best_row(plan), latest_row(plan)
        for row in (most, least):
            self.assertTrue(fits(plan, row))
            self.assertEqual(walked_swaps(plan, row), [])
        self.assertEqual(sorted(most), sorted(least))
        self.assertEqual(best_entries(plan), sorted(most))
        self.assertEqual((peak(plan), dip(plan)), (max(most), min(most)))
        # A swap that leaves the entries as even makes another best row: it may not raise or lower the sums.
        self.assertEqual([(p, q) for p, q in walked_swaps(plan, most, 1) if p > q], [])
        self.assertEqual([(p, q) for p, q in walked_swaps(plan, least, 1) if p < q], [])
        upper, lower = all_sums(most), all_sums(least)
        self.assertTrue(all(one >= two for one, two in zip(upper, lower)))
        ties = [time for time in range(1, len(plan)) if upper[time - 1] == lower[time - 1]]
        self.assertEqual(tied_times(plan), ties)
        self.assertTrue(all(isinstance(entry, int) for entry in most + least))

    def check_stretches(self, plan):
        most, least = best_row(plan), latest_row(plan)
        told = stretches(plan)
        self.assertEqual([first for first, *_ in told], [0] + tied_times(plan))
        self.assertEqual([last for _, last, *_ in told], tied_times(plan) + [len(plan)])
        for first, last, lesser, greater in told:
            entries = most[first:last] + least[first:last]
            # The entries of a stretch are the same ones in each best row.
            self.assertEqual(sorted(most[first:last]), sorted(least[first:last]))
            self.assertEqual((lesser, greater), (min(entries), max(entries)))
        same = same_entries(plan)
        self.assertTrue(all(one < two for one, two in zip(same, same[1:])))
        self.assertTrue(all(most[time - 1] == least[time - 1] for time in same))

    def test_up_to_forty_times(self):
        for plan in many_times_plans():
            self.check_extremes(plan)
            self.check_stretches(plan)

    def test_other_seeds(self):
        for seed in range(50, 56):
            for plan in many_times_plans(seed):
                self.check_extremes(plan)

    def test_hundred_to_two_hundred_times(self):
        for plan in long_plans():
            self.check_extremes(plan)
            self.check_stretches(plan)

    def test_greatest_numbers(self):
        plan = Plan([-GREAT, -GREAT, 0], [GREAT, GREAT, 0], [-GREAT, GREAT, -GREAT], [GREAT] * 3)
        self.assertEqual(best_row(plan), [-(GREAT // 2), GREAT, -(GREAT // 2) - 1])
        self.assertEqual(latest_row(plan), [-(GREAT // 2) - 1, GREAT, -(GREAT // 2)])
        self.assertEqual(peak(plan.multiplied(GREAT)), GREAT * GREAT)

    def test_entries_by_fixed_ones(self):
        """An entry stands at a time in some best row if the plan with this entry fixed has rows as even."""
        plans = [plan for plan in many_times_plans() if len(tied_times(plan)) < len(plan) - 1]
        self.assertGreater(len(plans), 15)
        for plan in plans[::2] + [plan for plan, _ in band_plans(20)]:
            found = [entries_by_fixing(plan, time) for time in range(1, len(plan) + 1)]
            same = [time for time, entries in enumerate(found, start=1) if len(entries) == 1]
            self.assertEqual(same_entries(plan), same)
            for first, last, lesser, greater in stretches(plan):
                entries = [entry for told in found[first:last] for entry in told]
                self.assertEqual((lesser, greater), (min(entries), max(entries)))


def entries_by_fixing(plan, time):
    """The entries that best rows have at a time."""
    low, high, least, most = lists_of(plan)
    found = []
    for entry in sorted(set(best_entries(plan))):
        if plan.least[time - 1] <= entry <= plan.most[time - 1]:
            least[time - 1] = most[time - 1] = entry
            fixed = Plan(low, high, least, most)
            if has_row(fixed) and best_entries(fixed) == best_entries(plan):
                found.append(entry)
    return found


class BandTest(unittest.TestCase):
    """Plans whose best rows walk within a narrow band."""

    def test_walks(self):
        for plan, k in band_plans(100):
            most, least = best_row(plan), latest_row(plan)
            self.assertEqual(set(most), {k, k + 1})
            upper, lower = all_sums(most), all_sums(least)
            walks = [{0}]
            for low, high in zip(plan.low, plan.high):
                walks.append({amount + step for amount in walks[-1] for step in (k, k + 1)
                              if low <= amount + step <= high})
            for time in range(len(plan) - 1, 0, -1):
                walks[time] = {amount for amount in walks[time] if {amount + k, amount + k + 1} & walks[time + 1]}
            self.assertEqual(upper, [max(amounts) for amounts in walks[1:]])
            self.assertEqual(lower, [min(amounts) for amounts in walks[1:]])
            self.assertEqual(tied_times(plan), [at for at in range(1, len(plan)) if len(walks[at]) == 1])
            entries = [{after - before for before in walks[at] for after in walks[at + 1]} & {k, k + 1}
                       for at in range(len(plan))]
            self.assertEqual(same_entries(plan), [at for at, told in enumerate(entries, start=1) if len(told) == 1])
            ends = [0] + tied_times(plan) + [len(plan)]
            self.assertEqual(stretches(plan), [
                (first, last, min(min(told) for told in entries[first:last]),
                 max(max(told) for told in entries[first:last])) for first, last in zip(ends, ends[1:])])

    def test_band_of_one_walk_and_of_two(self):
        low = [time * 3 // 2 for time in range(1, 100)] + [150]
        plan = Plan(low, low, [-5] * 100, [5] * 100)
        self.assertEqual((best_row(plan), latest_row(plan)), ([1, 2] * 50, [1, 2] * 50))
        self.assertEqual((tied_times(plan), same_entries(plan)), (list(range(1, 100)), list(range(1, 101))))
        high = [bound + time % 2 for time, bound in enumerate(low, start=1)]
        plan = Plan(low, high, [-5] * 100, [5] * 100)
        self.assertEqual((best_row(plan), latest_row(plan)), ([2, 1] * 50, [1, 2] * 50))
        self.assertEqual((tied_times(plan), same_entries(plan)), (list(range(2, 100, 2)), []))
        self.assertEqual(stretches(plan), [(time, time + 2, 1, 2) for time in range(0, 100, 2)])


class DerivedPlansTest(unittest.TestCase):
    """Point 6: what comes of the best rows of plans that are made from a plan."""

    def plans(self):
        return few_times_plans()[::4] + many_times_plans()[::5] + long_plans()[::4] + [band_plans(30)[2][0]]

    def test_turned(self):
        for plan in self.plans():
            turned = plan.turned()
            # What has come late in a row comes early in the row backwards.
            self.assertEqual(best_row(turned), latest_row(plan)[::-1])
            self.assertEqual(latest_row(turned), best_row(plan)[::-1])
            self.assertEqual(tied_times(turned), [len(plan) - time for time in tied_times(plan)][::-1])
            self.assertEqual(same_entries(turned), [len(plan) + 1 - time for time in same_entries(plan)][::-1])

    def test_lifted(self):
        for plan in self.plans():
            for by in (-1, 7, GREAT):
                self.assertEqual(best_row(plan.lifted(by)), [entry + by for entry in best_row(plan)])
                self.assertEqual(latest_row(plan.lifted(by)), [entry + by for entry in latest_row(plan)])
                self.assertEqual(tied_times(plan.lifted(by)), tied_times(plan))

    def test_negated(self):
        for plan in self.plans():
            negated = plan.negated()
            self.assertEqual(best_row(negated), [-entry for entry in latest_row(plan)])
            self.assertEqual(latest_row(negated), [-entry for entry in best_row(plan)])
            self.assertEqual((peak(negated), dip(negated)), (-dip(plan), -peak(plan)))

    def test_multiplied(self):
        for plan in few_times_plans()[::4]:
            for by in (1, 2, 3):
                rows = best_by_swaps(plan.multiplied(by))
                self.assertEqual((best_row(plan.multiplied(by)), latest_row(plan.multiplied(by))),
                                 (max(rows), min(rows)))
        for plan in many_times_plans()[::7]:
            many = plan.multiplied(10 ** 9)
            self.assertEqual(walked_swaps(many, best_row(many)), [])
            self.assertLessEqual(peak(many), peak(plan) * 10 ** 9)
            self.assertGreaterEqual(dip(many), dip(plan) * 10 ** 9)

    def test_joined(self):
        plans = [plan for plan in self.plans() if len(plan) <= 100]
        for one, two in zip(plans, plans[1:]):
            joined = one.joined(two)
            self.assertEqual(best_row(joined), best_row(one) + best_row(two))
            self.assertEqual(latest_row(joined), latest_row(one) + latest_row(two))
            self.assertIn(len(one), tied_times(joined))
            self.assertEqual(same_entries(joined),
                             same_entries(one) + [len(one) + time for time in same_entries(two)])

    def test_parts(self):
        numbers = Numbers(62)
        for plan in self.plans():
            for call in (best_row, latest_row):
                row = call(plan)
                sums = [0] + all_sums(row)
                for _ in range(3):
                    first = numbers.between(0, len(plan) - 1)
                    last = numbers.between(first + 1, len(plan))
                    part = plan.part(first, last, sums[first], sums[last])
                    self.assertEqual(call(part), row[first:last])

    def test_loosened(self):
        for plan in few_times_plans()[::9]:
            for time in range(1, len(plan)):
                for side in ("low", "high"):
                    rows = best_by_swaps(plan.loosened(time, side))
                    self.assertEqual(best_row(plan.loosened(time, side)), max(rows))


class GeneralTest(unittest.TestCase):

    def test_plans_without_rows(self):
        for plan in rowless_plans():
            for call in CALLS:
                check_no_row(self, plan, call)

    def test_plan_stays_and_lists_are_new(self):
        for plan in (plan_of_four(), many_times_plans()[20]):
            kept = lists_of(plan)
            for call in (best_row, latest_row, best_entries, tied_times, stretches, same_entries):
                one, two = call(plan), call(plan)
                self.assertEqual(one, two)
                self.assertIsNot(one, two)
                one.append(5)
                self.assertEqual(call(plan), two)
            self.assertEqual(lists_of(plan), kept)

    def test_plan_with_one_row(self):
        plan = Plan([3, 1], [3, 1], [3, -2], [3, -2])
        self.assertEqual((best_row(plan), latest_row(plan)), ([3, -2], [3, -2]))
        self.assertIsNot(best_row(plan), latest_row(plan))
        self.assertEqual((best_entries(plan), tied_times(plan)), ([-2, 3], [1]))

    def test_between_the_emptiest_and_the_fullest_row(self):
        for plan in many_times_plans():
            sums = [all_sums(call(plan)) for call in (emptiest, latest_row, best_row, fullest)]
            for one, two in zip(sums, sums[1:]):
                self.assertTrue(all(lesser <= greater for lesser, greater in zip(one, two)))

    def test_defined_in_the_file(self):
        for call in CALLS:
            self.assertEqual(call.__module__, "evenbits.best")
            self.assertIs(getattr(best, call.__name__), call)


if __name__ == "__main__":
    unittest.main()
