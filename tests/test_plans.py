"""Points 2, 3 and 6: what a plan is, and what it tells."""

import unittest

from evenbits import plans
from evenbits.errors import EvenError, InvalidPlan
from evenbits.plans import Plan
from helpers import GREAT, WHOLE_LISTS, any_objects, great_plan, lists_of

LISTS = ([2, 5, 10], [6, 8, 10], [0, 1, 0], [9, 8, 7])
NAMES = ("low", "high", "least", "most")


class MadePlanTest(unittest.TestCase):

    def check_told(self, *lists):
        plan = Plan(*lists)
        self.assertEqual(lists_of(plan), lists)
        self.assertEqual(plan.times, len(lists[0]))
        self.assertEqual(len(plan), len(lists[0]))
        self.assertEqual(plan.total, lists[0][-1])
        self.assertEqual(plan.total, lists[1][-1])

    def test_few_times(self):
        self.check_told(*LISTS)
        self.check_told([-3, -9], [4, -9], [-20, -1], [-4, 6])

    def test_one_time(self):
        self.check_told([7], [7], [0], [9])
        self.check_told([0], [0], [0], [0])
        self.check_told([-5], [-5], [3], [3])

    def test_equal_bounds(self):
        self.check_told([1, 2, 3], [1, 2, 3], [1, 1, 1], [1, 1, 1])

    def test_great_numbers(self):
        self.check_told([GREAT, -GREAT], [GREAT, -GREAT], [-GREAT, -GREAT], [GREAT, GREAT])
        self.check_told([-GREAT, 10 ** 29], [GREAT, 10 ** 29], [-GREAT, 0], [GREAT, 0])

    def test_more_digits(self):
        self.check_told([-10 ** 40, 10 ** 40], [10 ** 39, 10 ** 40], [0, 0], [10 ** 41, 10 ** 41])

    def test_two_hundred_times(self):
        self.check_told(list(range(200)), [time + 5 for time in range(199)] + [199], [-1] * 200, [7] * 200)
        self.check_told(*lists_of(great_plan(1)[0]))

    def test_more_than_two_hundred_times(self):
        for times in (201, 202, 400):
            with self.assertRaises(InvalidPlan):
                Plan([0] * times, [0] * times, [0] * times, [0] * times)

    def test_no_time(self):
        with self.assertRaises(InvalidPlan):
            Plan([], [], [], [])

    def test_a_plan_without_rows_is_a_plan(self):
        self.check_told([5], [5], [6], [6])

    def test_by_name(self):
        low, high, least, most = LISTS
        self.assertEqual(Plan(most=most, least=least, high=high, low=low), Plan(*LISTS))
        self.assertEqual(Plan(low, high, most=most, least=least), Plan(*LISTS))

    def test_invalid_plan_is_an_even_error(self):
        with self.assertRaises(EvenError):
            Plan([1], [2], [0], [3])


class InvalidPlanTest(unittest.TestCase):

    def check_invalid(self, *lists):
        with self.assertRaises(InvalidPlan, msg=repr(lists)[:200]):
            Plan(*lists)

    def test_any_object_in_each_place(self):
        for place in range(4):
            for thing in any_objects():
                lists = list(LISTS)
                lists[place] = thing
                self.check_invalid(*lists)

    def test_any_object_in_all_places(self):
        for thing in any_objects():
            if thing not in WHOLE_LISTS:
                self.check_invalid(thing, thing, thing, thing)

    def test_any_object_as_a_number(self):
        for place in range(4):
            for at in range(3):
                for thing in any_objects():
                    if not isinstance(thing, int) or isinstance(thing, bool):
                        lists = [list(numbers) for numbers in LISTS]
                        lists[place][at] = thing
                        self.check_invalid(*lists)

    def test_tuples(self):
        self.check_invalid(*[tuple(numbers) for numbers in LISTS])

    def test_booleans(self):
        self.check_invalid([True], [True], [0], [1])
        self.check_invalid([1], [1], [False], [1])
        self.check_invalid([1], [1], [0], [True])
        self.check_invalid([False, 1], [1, 1], [0, 0], [1, 1])

    def test_lists_that_do_not_fit(self):
        for place in range(4):
            for change in (lambda numbers: numbers[1:], lambda numbers: [0] + numbers):
                lists = list(LISTS)
                lists[place] = change(lists[place])
                self.check_invalid(*lists)
        self.check_invalid([1, 1], [1, 1], [0], [1])
        self.check_invalid([1], [1], [0, 0], [1, 1])

    def test_low_above_high(self):
        self.check_invalid([7, 5, 10], [6, 8, 10], [0, 1, 0], [9, 8, 7])
        self.check_invalid([2, 9, 10], [6, 8, 10], [0, 1, 0], [9, 8, 7])
        self.check_invalid([2, 5, 11], [6, 8, 10], [0, 1, 0], [9, 8, 7])

    def test_least_above_most(self):
        for at in range(3):
            least = list(LISTS[2])
            least[at] = LISTS[3][at] + 1
            self.check_invalid(LISTS[0], LISTS[1], least, LISTS[3])

    def test_different_totals(self):
        self.check_invalid([2, 5, 9], [6, 8, 10], [0, 1, 0], [9, 8, 7])
        self.check_invalid([9], [10], [0], [20])

    def test_several_wrong_lists(self):
        self.check_invalid(None, [True], "x", (1,))
        self.check_invalid([2, 1], [1, 2], [5, 5], [4, 4])


class UnchangingPlanTest(unittest.TestCase):

    def test_passed_lists_are_not_changed(self):
        lists = [list(numbers) for numbers in LISTS]
        Plan(*lists).turned()
        self.assertEqual(tuple(lists), LISTS)

    def test_changing_passed_lists_changes_no_plan(self):
        for place in range(4):
            lists = [list(numbers) for numbers in LISTS]
            plan = Plan(*lists)
            lists[place][0] = 5
            lists[place].append(7)
            self.assertEqual(plan, Plan(*LISTS))
            self.assertEqual(lists_of(plan), LISTS)
            self.assertEqual((len(plan), plan.times, plan.total), (3, 3, 10))

    def test_changing_told_lists_changes_no_plan(self):
        for name in NAMES:
            plan = Plan(*LISTS)
            told = getattr(plan, name)
            told[-1] = 99
            told.append(7)
            self.assertEqual(plan, Plan(*LISTS))
            self.assertEqual(lists_of(plan), LISTS)
            self.assertEqual((len(plan), plan.times, plan.total), (3, 3, 10))

    def test_told_lists_are_new(self):
        same = [4, 4]
        plan = Plan(same, same, same, same)
        told = [getattr(plan, name) for name in NAMES + NAMES] + [same]
        self.assertEqual(len({id(numbers) for numbers in told}), 9)
        self.assertEqual({type(numbers) for numbers in told}, {list})

    def test_changing_a_made_plan_changes_no_other(self):
        plan = Plan(*LISTS)
        made = plan.lifted(0)
        made.low.clear()
        plan.high.clear()
        self.assertEqual(made, plan)
        self.assertEqual(lists_of(made), LISTS)

    def test_properties_cannot_be_assigned(self):
        plan = Plan(*LISTS)
        for name in NAMES + ("times", "total"):
            with self.assertRaises(AttributeError):
                setattr(plan, name, 1)


class EqualPlanTest(unittest.TestCase):

    def test_equal(self):
        one, two = Plan(*LISTS), Plan(*[list(numbers) for numbers in LISTS])
        self.assertIs(one == two, True)
        self.assertIs(one != two, False)
        self.assertIs(one == one, True)

    def test_one_number_differs(self):
        for place in range(4):
            for at in range(3):
                for by in (-1, 1):
                    lists = [list(numbers) for numbers in LISTS]
                    lists[place][at] += by
                    if at == 2 and place < 2:
                        lists[1 - place][at] += by
                    other = Plan(*lists)
                    self.assertIs(Plan(*LISTS) == other, False)
                    self.assertIs(other == Plan(*LISTS), False)
                    self.assertIs(other != Plan(*LISTS), True)

    def test_one_great_number_differs(self):
        one = Plan([0, GREAT], [0, GREAT], [0, 0], [0, GREAT])
        two = Plan([0, GREAT], [0, GREAT], [0, 0], [0, GREAT - 1])
        self.assertFalse(one == two)

    def test_another_length(self):
        self.assertFalse(Plan([0], [0], [0], [0]) == Plan([0, 0], [0, 0], [0, 0], [0, 0]))

    def test_other_objects(self):
        plan = Plan(*LISTS)
        for thing in any_objects() + [LISTS, list(LISTS), {"low": LISTS[0]}]:
            self.assertIs(plan == thing, False)
            self.assertIs(plan != thing, True)
            self.assertIs(thing == plan, False)

    def test_plan_in_lists(self):
        self.assertTrue(Plan(*LISTS) in [1, Plan(*LISTS)])
        self.assertEqual([Plan(*LISTS), (Plan(*LISTS),)], [Plan(*LISTS), (Plan(*LISTS),)])


class InterfaceTest(unittest.TestCase):

    def test_methods_are_defined_in_the_class(self):
        self.assertEqual(Plan.__module__, plans.__name__)
        for name in NAMES + ("times", "total", "__init__", "__len__", "__eq__", "turned", "lifted", "negated",
                             "multiplied", "joined", "part", "loosened"):
            self.assertIn(name, vars(Plan))


if __name__ == "__main__":
    unittest.main()
