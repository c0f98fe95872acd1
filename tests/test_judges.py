"""Points 3, 4 (R2, R4) and 9: judges of rows."""

import unittest
from itertools import product

from evenbits import judges
from evenbits.best import best_row, latest_row
from evenbits.counts import nth_best
from evenbits.errors import InvalidRow, InvalidTime
from evenbits.judges import compare, evening_swap, is_best, paper_of, shows_best, swapped
from evenbits.plans import Plan
from evenbits.rows import emptiest, fullest
from helpers import (
    GREAT, WHOLE_LISTS, Numbers, all_rows, any_objects, band_plans, best_by_swaps, check_no_row,
    few_times_plans, fits, lists_of, long_plans, many_times_plans, one_swap, rowless_plans, tried_swaps,
    walked_swaps)


def plan_of_three():
    return Plan([-9, -9, 6], [9, 9, 6], [-9, -9, -9], [9, 9, 9])


def papers_objects():
    """Objects that are no papers of a plan of 3 times."""
    return any_objects() + [
        [()], [(3, 2)], [(3, 2, "end", 0)], [[3, 2, "end"]], ((3, 2, "end"),), (3, 2, "end"), [(3, 2, "end"), None],
        [(3, 2, "low")], [(3, 2, "high")], [(3, 2, "")], [(3, 2, "END")], [(3, 2, None)], [(3, 2, ["end"])],
        [(3, 2, plan_of_three())], [(True, 2, "low"), (3, 2, "end")], [(3, True, "end")], [(3, "2", "end")],
        [(3, None, "end")], [("3", 2, "end")], [(2, 2, "end")], [(4, 2, "end")], [(1, 2, "end"), (3, 2, "end")],
        [(3, 2, "end"), (3, 2, "end")], [(-1, 2, "low"), (3, 2, "end")], [(4, 2, "low"), (3, 2, "end")],
        [(3, 2, "low"), (3, 2, "end")], [(2, 2, "low"), (1, 2, "low"), (3, 2, "end")],
        [(1, 2, "low"), (1, 2, "low"), (3, 2, "end")], {"3": (3, 2, "end")}, "[(3, 2, 'end')]"]


def paper_holds(plan, row, paper):
    """R4 word for word, for a list of tuples of two integers and a string."""
    lasts = [last for last, _, _ in paper]
    sides = [side for _, _, side in paper]
    if not paper or lasts[-1] != len(plan) or sides[-1] != "end" or min(lasts) < 1:
        return False
    if any(side not in ("low", "high") for side in sides[:-1]) or sorted(set(lasts)) != lasts:
        return False
    for at, (last, level, side) in enumerate(paper):
        for time in range(lasts[at - 1] if at else 0, last):
            least, most = plan.least[time], plan.most[time]
            entries = [min(most, max(least, level)), min(most, max(least, level + 1))]
            if row[time] not in entries:
                return False
        if side == "low" and (sum(row[:last]) != plan.low[last - 1] or level < paper[at + 1][1]):
            return False
        if side == "high" and (sum(row[:last]) != plan.high[last - 1] or level > paper[at + 1][1]):
            return False
    return True


def changed_papers(paper):
    """The paper changed in one part: another last, level or side, a part more or less."""
    found = []
    for at, (last, level, side) in enumerate(paper):
        others = [(last + by, level, side) for by in (-2, -1, 1, 2)]
        others += [(last, level + by, side) for by in (-2, -1, 1, 2, GREAT)]
        others += [(last, level, word) for word in ("low", "high", "end", "") if word != side]
        found += [paper[:at] + [part] + paper[at + 1:] for part in others]
        found.append(paper[:at] + paper[at + 1:])
        found += [paper[:at] + [(last - 1, level, word)] + paper[at:] for word in ("low", "high", "end")]
        found.append(paper[:at] + [(last, level, side)] * 2 + paper[at + 1:])
    found.append(paper + [(paper[-1][0] + 1, paper[-1][1], "end")])
    return found


def drawn_paper(numbers, plan, row):
    """A paper with drawn parts; its levels are near the entries of a row."""
    lasts = [time for time in range(1, len(plan)) if numbers.between(0, 2) == 0]
    paper, first = [], 0
    for last in lasts + [len(plan)]:
        entries = row[first:last]
        level = numbers.between(min(entries) - 1, max(entries))
        paper.append((last, level, numbers.one_of(("low", "high")) if last < len(plan) else "end"))
        first = last
    return paper


class SwapTest(unittest.TestCase):

    def test_examples(self):
        plan = plan_of_three()
        self.assertEqual(evening_swap(plan, [4, 1, 1]), (1, 2))
        self.assertEqual(evening_swap(plan, [1, 1, 4]), (3, 1))
        self.assertEqual(evening_swap(plan, [3, 0, 3]), (1, 2))
        self.assertIsNone(evening_swap(plan, [2, 2, 2]))
        self.assertIs(is_best(plan, [2, 2, 2]), True)
        self.assertIs(is_best(plan, [3, 2, 1]), False)
        self.assertEqual(evening_swap(row=[3, 2, 1], plan=plan), (1, 3))
        self.assertIs(is_best(row=[2, 2, 2], plan=plan), True)

    def test_each_bound_bars_a_swap(self):
        row = [4, 1, 1]
        for plan in (Plan([4, 5, 6], [9, 9, 6], [-9] * 3, [9] * 3), Plan([0, 0, 6], [9, 9, 6], [4, 0, 0], [9] * 3),
                     Plan([0, 0, 6], [9, 9, 6], [0] * 3, [9, 1, 1])):
            self.assertIsNone(evening_swap(plan, row))
            self.assertIs(is_best(plan, row), True)
        self.assertEqual(evening_swap(Plan([0, 5, 6], [9, 9, 6], [0] * 3, [9] * 3), row), (1, 2))
        self.assertEqual(evening_swap(Plan([0, 0, 6], [9, 9, 6], [0] * 3, [9, 1, 9]), row), (1, 3))
        backwards = [1, 1, 4]
        self.assertIsNone(evening_swap(Plan([0, 0, 6], [1, 2, 6], [0] * 3, [9] * 3), backwards))
        self.assertEqual(evening_swap(Plan([0, 0, 6], [1, 9, 6], [0] * 3, [9] * 3), backwards), (3, 2))

    def test_every_row_by_trying(self):
        for plan in few_times_plans():
            for row in all_rows(plan):
                swaps = tried_swaps(plan, row)
                self.assertEqual(evening_swap(plan, row), min(swaps) if swaps else None, msg=(lists_of(plan), row))
                self.assertIs(is_best(plan, row), not swaps)

    def test_rows_of_many_times(self):
        for plan in many_times_plans() + long_plans():
            for row in (fullest(plan), emptiest(plan)):
                swaps = walked_swaps(plan, row)
                self.assertEqual(evening_swap(plan, row), min(swaps) if swaps else None)
            for row in (best_row(plan), latest_row(plan)):
                self.assertIsNone(evening_swap(plan, row))
                self.assertIs(is_best(plan, row), True)

    def test_swaps_one_after_the_other_end_with_a_best_row(self):
        small = [plan for plan in many_times_plans() if max(plan.most) < 10 ** 4]
        for plan in few_times_plans()[::3] + small + [plan for plan, _ in band_plans(60)]:
            row = fullest(plan)
            while (swap := evening_swap(plan, row)) is not None:
                before, row = row, swapped(row, *swap)
                self.assertTrue(fits(plan, row))
                self.assertEqual(compare(row, before), "evener")
            self.assertIs(is_best(plan, row), True)
            self.assertEqual(compare(row, best_row(plan)), "same")

    def test_kinds(self):
        self.assertIsInstance(evening_swap(plan_of_three(), [4, 1, 1]), tuple)

    def test_no_row_of_the_plan(self):
        for call in (is_best, evening_swap):
            for thing in any_objects() + [[2, 2, 3], [10, -2, -2], [2, 2, 2, 0], (2, 2, 2)]:
                with self.assertRaises(InvalidRow, msg=repr(thing)[:100]):
                    call(plan_of_three(), thing)


class SwappedTest(unittest.TestCase):

    def test_swapped(self):
        self.assertEqual(swapped([4, 1, 1], 1, 2), [3, 2, 1])
        self.assertEqual(swapped([4, 1, 1], 3, 1), [5, 1, 0])
        self.assertEqual(swapped(q=2, p=1, row=[0, 0]), [-1, 1])
        self.assertEqual(swapped([GREAT, -GREAT], 2, 1), [GREAT + 1, -GREAT - 1])
        self.assertEqual(swapped([0] * 200, 200, 199), [0] * 198 + [1, -1])

    def test_every_pair(self):
        row = [5, -3, 0, 8]
        for p, q in product(range(1, 5), repeat=2):
            if p != q:
                self.assertEqual(swapped(row, p, q), one_swap(row, p, q))
        self.assertEqual(row, [5, -3, 0, 8])

    def test_times_beyond(self):
        for p, q in ((0, 1), (4, 1), (1, 0), (1, 4), (-1, 2), (2, -1), (2, 2), (GREAT, 1), (1, -GREAT), (0, 0)):
            with self.assertRaises(InvalidTime):
                swapped([1, 2, 3], p, q)
        for p, q in ((True, 2), (2, True), (None, 1), (1, "2")):
            with self.assertRaises(InvalidTime):
                swapped([1, 2, 3], p, q)
        for p, q in ((1, 1), (1, 2), (2, 1)):
            with self.assertRaises(InvalidTime):
                swapped([1], p, q)

    def test_wrong_lists(self):
        for thing in any_objects():
            if thing not in WHOLE_LISTS:
                with self.assertRaises(InvalidRow, msg=repr(thing)[:100]):
                    swapped(thing, 0, 0)

    def test_new_list(self):
        row = [1, 2]
        told = swapped(row, 1, 2)
        told.append(3)
        self.assertEqual((row, swapped(row, 1, 2)), ([1, 2], [0, 3]))


class CompareTest(unittest.TestCase):

    def check(self, row, other):
        tops = [[sum(sorted(told)[len(told) - k:]) for k in range(len(told) + 1)] for told in (row, other)]
        ahead = all(one <= two for one, two in zip(*tops))
        behind = all(one >= two for one, two in zip(*tops))
        words = {(True, True): "same", (True, False): "evener", (False, True): "less even", (False, False): "none"}
        self.assertEqual(compare(row, other), words[ahead, behind])
        return words[ahead, behind]

    def test_examples(self):
        self.assertEqual(compare([2, 2, 2], [3, 2, 1]), "evener")
        self.assertEqual(compare([3, 2, 1], [2, 2, 2]), "less even")
        self.assertEqual(compare([3, 1, 2], [1, 2, 3]), "same")
        self.assertEqual(compare([4, 1, 1], [3, 3, 0]), "none")
        self.assertEqual(compare(other=[5], row=[5]), "same")
        self.assertEqual(compare([GREAT, -GREAT], [0, 0]), "less even")

    def test_drawn_lists_both_ways(self):
        numbers, told = Numbers(71), set()
        for number in range(400):
            row = numbers.listed(1 + number % 6, -3, 3)
            other = numbers.listed(1 + number % 6, -3, 3)
            other[-1] += sum(row) - sum(other)
            told |= {self.check(row, other), self.check(other, row)}
        self.assertEqual(told, {"same", "evener", "less even", "none"})

    def test_exchanged_entries_and_one_swap(self):
        numbers = Numbers(72)
        for times in (2, 3, 10, 100, 199, 200):
            row = [numbers.wide(-10 ** 27, 10 ** 27) for _ in range(times)]
            p = numbers.between(1, times)
            q = numbers.between(1, times - 1)
            q += q >= p
            exchanged = list(row)
            exchanged[p - 1], exchanged[q - 1] = row[q - 1], row[p - 1]
            self.assertEqual(compare(row, exchanged), "same")
            word = self.check(one_swap(row, p, q), row)
            self.assertEqual(word, "evener" if row[p - 1] >= row[q - 1] + 2 else "less even")
            self.check(row, one_swap(exchanged, p, q))

    def test_one_swap_of_near_entries(self):
        self.assertEqual(compare(one_swap([3, 2], 1, 2), [3, 2]), "same")
        self.assertEqual(compare(one_swap([2, 2], 1, 2), [2, 2]), "less even")
        self.assertEqual(compare(one_swap([4, 2], 1, 2), [4, 2]), "evener")

    def test_other_totals_and_lengths(self):
        for row, other in (([1, 2], [1, 3]), ([1, 2], [3]), ([1, 2], [1, 2, 0]), ([0], [0] * 200), ([1], [-1])):
            for one, two in ((row, other), (other, row)):
                with self.assertRaises(InvalidRow):
                    compare(one, two)

    def test_any_object(self):
        for thing in any_objects():
            if thing not in WHOLE_LISTS:
                for one, two in ((thing, [1, 2, 3]), ([1, 2, 3], thing), (thing, thing)):
                    with self.assertRaises(InvalidRow, msg=repr(thing)[:100]):
                        compare(one, two)
        with self.assertRaises(InvalidRow):
            compare([0] * 201, [0] * 201)

    def test_lists_stay(self):
        row, other = [3, 1, 2], [1, 3, 2]
        compare(row, other)
        self.assertEqual((row, other), ([3, 1, 2], [1, 3, 2]))

    def test_best_rows_are_evener_or_as_even_as_every_row(self):
        for plan in few_times_plans():
            least = best_row(plan)
            for row in all_rows(plan):
                self.assertIn(compare(least, row), ("same", "evener"))
        for plan in many_times_plans() + long_plans():
            for row in (fullest(plan), emptiest(plan)):
                self.assertIn(compare(best_row(plan), row), ("same", "evener"))


class PaperTest(unittest.TestCase):

    def test_examples(self):
        self.assertIn(paper_of(plan_of_three()), ([(3, 1, "end")], [(3, 2, "end")]))
        self.assertIs(shows_best(plan_of_three(), [2, 2, 2], [(3, 2, "end")]), True)
        plan = Plan([5, 6], [9, 6], [-9, -9], [9, 9])
        self.assertIs(shows_best(plan, [5, 1], [(1, 4, "low"), (2, 1, "end")]), True)
        self.assertIs(shows_best(plan, [5, 1], [(1, 4, "high"), (2, 1, "end")]), False)
        self.assertIs(shows_best(plan, [6, 0], [(1, 5, "low"), (2, 0, "end")]), False)
        self.assertIs(shows_best(thing=[(1, 1, "high"), (2, 5, "end")], row=[1, 5],
                                 plan=Plan([0, 6], [1, 6], [0, 0], [9, 9])), True)

    def test_equal_levels_on_both_sides(self):
        plan = Plan([2, 4], [2, 4], [-9, -9], [9, 9])
        for side in ("low", "high"):
            self.assertIs(shows_best(plan, [2, 2], [(1, 2, side), (2, 2, "end")]), True)
            self.assertIs(shows_best(plan, [2, 2], [(1, 1, side), (2, 1, "end")]), True)
        self.assertIs(shows_best(plan, [2, 2], [(1, 1, "low"), (2, 2, "end")]), False)
        self.assertIs(shows_best(plan, [2, 2], [(1, 1, "high"), (2, 2, "end")]), True)
        self.assertIs(shows_best(plan, [2, 2], [(1, 2, "high"), (2, 1, "end")]), False)

    def test_levels_far_beyond_the_bounds_of_entries(self):
        plan = Plan([9], [9], [9], [9])
        for level in (-GREAT, 0, 8, 9, GREAT):
            self.assertIs(shows_best(plan, [9], [(1, level, "end")]), True)
        plan = Plan([0, 18], [18, 18], [0, 0], [9, 9])
        self.assertIs(shows_best(plan, [9, 9], [(2, GREAT, "end")]), True)

    def check_paper(self, plan, row, paper):
        self.assertIs(shows_best(plan, row, paper), paper_holds(plan, row, paper), msg=(lists_of(plan), row, paper))
        return paper_holds(plan, row, paper)

    def test_paper_of_every_plan_holds(self):
        plans = few_times_plans() + many_times_plans() + long_plans() + [plan for plan, _ in band_plans(100)]
        for plan in plans:
            paper = paper_of(plan)
            self.assertTrue(paper_holds(plan, best_row(plan), paper))
            self.assertTrue(self.check_paper(plan, latest_row(plan), paper))
            self.assertIs(shows_best(plan, best_row(plan), paper), True)
            self.assertEqual(paper, paper_of(plan=plan))

    def test_a_row_is_best_if_and_only_if_it_has_a_paper(self):
        for plan in few_times_plans()[::2]:
            levels = range(min(plan.least), max(plan.most) + 1)
            papers = [[(len(plan), level, "end")] for level in levels]
            for first in range(1, len(plan)):
                papers += [[(first, one, side), (len(plan), two, "end")]
                           for one, two, side in product(levels, levels, ("low", "high"))]
            papers.append(paper_of(plan))
            for row in all_rows(plan):
                held = [self.check_paper(plan, row, paper) for paper in papers]
                self.assertEqual(any(held), not tried_swaps(plan, row))

    def test_changed_papers(self):
        told = set()
        for plan in few_times_plans() + many_times_plans()[::2]:
            row, paper = best_row(plan), paper_of(plan)
            told |= {self.check_paper(plan, row, changed) for changed in changed_papers(paper)}
        self.assertEqual(told, {True, False})

    def test_changed_papers_of_long_plans(self):
        numbers = Numbers(73)
        for plan in long_plans():
            papers = changed_papers(paper_of(plan))
            for _ in range(10):
                self.check_paper(plan, best_row(plan), numbers.one_of(papers))

    def test_drawn_papers(self):
        numbers, told = Numbers(74), []
        for plan in few_times_plans():
            for row in best_by_swaps(plan) + all_rows(plan)[:3]:
                told += [self.check_paper(plan, row, drawn_paper(numbers, plan, row)) for _ in range(6)]
        self.assertGreater(told.count(True), 100)
        self.assertGreater(told.count(False), 100)

    def test_papers_of_another_row(self):
        for plan in many_times_plans():
            for row in (fullest(plan), emptiest(plan)):
                best = not walked_swaps(plan, row)
                self.assertIs(shows_best(plan, row, paper_of(plan)), best)
        for plan, _ in band_plans(60):
            for index in (0, 1, 57):
                self.assertIs(shows_best(plan, nth_best(plan, index), paper_of(plan)), True)

    def test_other_objects(self):
        for thing in papers_objects():
            self.assertIs(shows_best(plan_of_three(), [2, 2, 2], thing), False, msg=repr(thing)[:100])
        self.assertIs(shows_best(plan_of_three(), [2, 2, 2], [(3, 2, "end")]), True)

    def test_a_part_ends_behind_zero(self):
        plan = Plan([2, 4], [2, 4], [-9, -9], [9, 9])
        for side in ("low", "high"):
            self.assertIs(shows_best(plan, [2, 2], [(0, 2, side), (2, 2, "end")]), False)

    def test_no_row_of_the_plan(self):
        for thing in any_objects() + [[2, 2, 3], [10, -2, -2], (2, 2, 2)]:
            with self.assertRaises(InvalidRow, msg=repr(thing)[:100]):
                shows_best(plan_of_three(), thing, [(3, 2, "end")])

    def test_kinds_and_new_lists(self):
        plan = Plan([5, 6], [9, 6], [-9, -9], [9, 9])
        paper = paper_of(plan)
        self.assertIsInstance(paper, list)
        self.assertTrue(all(isinstance(part, tuple) for part in paper))
        paper.clear()
        self.assertTrue(paper_holds(plan, [5, 1], paper_of(plan)))


class GeneralTest(unittest.TestCase):

    def test_plans_without_rows(self):
        for plan in rowless_plans():
            for row in ([0] * len(plan), plan.most, None, [], [True], "row"):
                check_no_row(self, plan, is_best, row)
                check_no_row(self, plan, evening_swap, row)
                for thing in ([(len(plan), 0, "end")], None, []):
                    check_no_row(self, plan, shows_best, row, thing)
            check_no_row(self, plan, paper_of)

    def test_the_first_wrong_argument_decides(self):
        with self.assertRaises(InvalidRow):
            swapped(None, 0, 0)
        with self.assertRaises(InvalidRow):
            compare(None, [1])
        for row in ([1], None):
            with self.assertRaises(InvalidRow):
                shows_best(plan_of_three(), row, None)

    def test_arguments_stay(self):
        plan, row, paper = plan_of_three(), [4, 1, 1], [(1, 2, "low"), (3, 2, "end")]
        is_best(plan, row), evening_swap(plan, row), shows_best(plan, row, paper), paper_of(plan)
        self.assertEqual((plan, row, paper), (plan_of_three(), [4, 1, 1], [(1, 2, "low"), (3, 2, "end")]))

    def test_defined_in_the_file(self):
        for call in (is_best, evening_swap, swapped, compare, paper_of, shows_best):
            self.assertEqual(call.__module__, "evenbits.judges")
            self.assertIs(getattr(judges, call.__name__), call)


if __name__ == "__main__":
    unittest.main()
