"""The document over the whole program: its interface, its general rules, and its points one with another."""

import copy
import importlib
import inspect
import unittest
from itertools import combinations

from evenbits import errors
from evenbits.best import best_entries, best_row, latest_row, peak, same_entries, stretches, tied_times
from evenbits.bounds import idle, moved_bound, needless, room_of, shifts
from evenbits.counts import best_index, count_best, count_through, nearest_best, nth_best
from evenbits.errors import (
    EvenError, InvalidIndex, InvalidNeeds, InvalidNumber, InvalidPlan, InvalidPrice, InvalidRow, InvalidSide,
    InvalidStreams, InvalidText, InvalidTime, NoRow, NothingToUndo)
from evenbits.judges import compare, evening_swap, is_best, paper_of, shows_best, swapped
from evenbits.live import Sender, live_row, loss_of
from evenbits.needs import least_buffer, least_delay, least_rate, plan_between, plan_of, trade
from evenbits.plans import Plan
from evenbits.points import cost_through, slope, through
from evenbits.prices import bound_by, cost_of, excess, excess_paper, least_cost, shortfall, telling_rate, tops
from evenbits.rows import conflict, emptiest, fullest, has_row, is_row, sum_range, sums_of
from evenbits.session import session
from evenbits.streams import gain, joint, shares
from evenbits.texts import read_plan, read_row, write_plan, write_row
from helpers import (
    GREAT, Numbers, all_rows, all_sums, any_objects, best_by_swaps, cost_by, drawn_price, few_times_plans, fits,
    made_plan, many_times_plans, rowless_plans)


def four():
    return Plan([0, 5, 0, 8], [9, 9, 9, 8], [0] * 4, [9] * 4)


def rowless():
    """A plan of four times without rows."""
    return Plan([0, 9, 0, 8], [2, 9, 9, 8], [0] * 4, [6] * 4)


PRICE = (0, [(1, 1), (2, 3)])
NO_PRICE = (0, [(2, 1), (1, 1)])
BEST, ROW = [3, 2, 2, 1], [5, 1, 1, 1]
NEEDS = [5, 0, 9, 1]
STREAMS = [([0, 2, 4], [3, 4, 4]), ([1, 1, 6], [2, 6, 6])]
TEXT = "0:9:0:9 5:9:0:9 0:9:0:9 8:8:0:9"

NO_ROW = (None, InvalidRow)
NO_TIME = (GREAT, InvalidTime)
NO_SIDE = ("up", InvalidSide)
NO_NUMBER = (-GREAT, InvalidNumber)
NO_NEEDS = ([3, -1], InvalidNeeds)
NO_STREAMS = ([([0, 1], [2, 3])], InvalidStreams)
WRONG_PRICE = (NO_PRICE, InvalidPrice)

# File, name, arguments in the order of the signature, what is returned, and for some arguments a wrong value with
# its error. Plan.name and Sender.name are methods; their first argument is the object.
CALLS = [
    ("plans", "Plan", {"low": [1, 4], "high": [3, 4], "least": [0, 0], "most": [9, 9]},
     Plan([1, 4], [3, 4], [0, 0], [9, 9]),
     {"low": ([5, 4], InvalidPlan), "high": (None, InvalidPlan), "least": ([0], InvalidPlan),
      "most": ([-1, 0], InvalidPlan)}),
    ("plans", "Plan.turned", {"self": four()}, Plan([-1, -1, -1, 8], [8, 3, 8, 8], [0] * 4, [9] * 4), {}),
    ("plans", "Plan.lifted", {"self": four(), "by": 1}, Plan([1, 7, 3, 12], [10, 11, 12, 12], [1] * 4, [10] * 4), {}),
    ("plans", "Plan.negated", {"self": four()}, Plan([-9, -9, -9, -8], [0, -5, 0, -8], [-9] * 4, [0] * 4), {}),
    ("plans", "Plan.multiplied", {"self": four(), "by": 2}, Plan([0, 10, 0, 16], [18, 18, 18, 16], [0] * 4, [18] * 4),
     {"by": (0, InvalidNumber)}),
    ("plans", "Plan.joined", {"self": Plan([4], [4], [0], [9]), "other": Plan([5], [5], [1], [8])},
     Plan([4, 9], [4, 9], [0, 1], [9, 8]), {}),
    ("plans", "Plan.part", {"self": four(), "first": 1, "last": 3, "begin": 3, "end": 7},
     Plan([2, 4], [6, 4], [0, 0], [9, 9]),
     {"first": (4, InvalidTime), "last": (1, InvalidTime), "begin": NO_NUMBER, "end": NO_NUMBER}),
    ("plans", "Plan.loosened", {"self": four(), "time": 2, "side": "low"},
     Plan([0, -10, 0, 8], [9, 9, 9, 8], [0] * 4, [9] * 4), {"time": (4, InvalidTime), "side": NO_SIDE}),
    ("rows", "is_row", {"plan": four(), "thing": BEST}, True, {}),
    ("rows", "sums_of", {"row": BEST}, [3, 5, 7, 8], {"row": NO_ROW}),
    ("rows", "has_row", {"plan": four()}, True, {}),
    ("rows", "conflict", {"plan": four()}, None, {}),
    ("rows", "sum_range", {"plan": four(), "time": 2}, (5, 8), {"time": NO_TIME}),
    ("rows", "fullest", {"plan": four()}, [8, 0, 0, 0], {}),
    ("rows", "emptiest", {"plan": four()}, [0, 5, 0, 3], {}),
    ("best", "best_row", {"plan": four()}, BEST, {}),
    ("best", "latest_row", {"plan": four()}, [2, 3, 1, 2], {}),
    ("best", "best_entries", {"plan": four()}, [1, 2, 2, 3], {}),
    ("best", "tied_times", {"plan": four()}, [2], {}),
    ("best", "stretches", {"plan": four()}, [(0, 2, 2, 3), (2, 4, 1, 2)], {}),
    ("best", "peak", {"plan": four()}, 3, {}),
    ("best", "dip", {"plan": four()}, 1, {}),
    ("best", "same_entries", {"plan": four()}, [], {}),
    ("judges", "is_best", {"plan": four(), "row": ROW}, False, {"row": NO_ROW}),
    ("judges", "evening_swap", {"plan": four(), "row": ROW}, (1, 2), {"row": NO_ROW}),
    ("judges", "swapped", {"row": ROW, "p": 1, "q": 2}, [4, 2, 1, 1],
     {"row": ([], InvalidRow), "p": NO_TIME, "q": (0, InvalidTime)}),
    ("judges", "compare", {"row": BEST, "other": ROW}, "evener", {"row": NO_ROW, "other": ([8], InvalidRow)}),
    ("judges", "paper_of", {"plan": four()}, [(2, 2, "low"), (4, 1, "end")], {}),
    ("judges", "shows_best", {"plan": four(), "row": BEST, "thing": [(2, 2, "low"), (4, 1, "end")]}, True,
     {"row": NO_ROW}),
    ("counts", "count_best", {"plan": four()}, 4, {}),
    ("counts", "nth_best", {"plan": four(), "index": 3}, BEST, {"index": (4, InvalidIndex)}),
    ("counts", "best_index", {"plan": four(), "row": BEST}, 3, {"row": (ROW, InvalidRow)}),
    ("counts", "count_through", {"plan": four(), "time": 1, "amount": 3}, 2, {"time": NO_TIME}),
    ("counts", "nearest_best", {"plan": four(), "row": ROW}, (3, BEST), {"row": NO_ROW}),
    ("prices", "is_price", {"thing": PRICE}, True, {}),
    ("prices", "price_at", {"price": PRICE, "value": 4}, 9, {"price": WRONG_PRICE}),
    ("prices", "cost_of", {"row": BEST, "price": PRICE}, 7, {"row": NO_ROW, "price": WRONG_PRICE}),
    ("prices", "least_cost", {"plan": four(), "price": PRICE}, 7, {"price": WRONG_PRICE}),
    ("prices", "excess", {"plan": four(), "rate": 2}, 1, {}),
    ("prices", "shortfall", {"plan": four(), "rate": 2}, 1, {}),
    ("prices", "excess_paper", {"plan": four(), "rate": 2}, [(0, 2)], {}),
    ("prices", "bound_by", {"plan": four(), "rate": 2, "pairs": [(0, 2)]}, 1, {"pairs": ([(2, 2)], InvalidTime)}),
    ("prices", "tops", {"plan": four(), "number": 2}, 5, {"number": NO_NUMBER}),
    ("prices", "telling_rate", {"plan": four(), "row": ROW}, 2, {"row": NO_ROW}),
    ("points", "through", {"plan": four(), "time": 2, "amount": 6}, [3, 3, 1, 1],
     {"time": NO_TIME, "amount": NO_NUMBER}),
    ("points", "cost_through", {"plan": four(), "price": PRICE, "time": 2, "amount": 6}, 10,
     {"price": WRONG_PRICE, "time": NO_TIME, "amount": NO_NUMBER}),
    ("points", "slope", {"plan": four(), "price": PRICE, "time": 2, "amount": 6}, 4,
     {"price": WRONG_PRICE, "time": NO_TIME, "amount": NO_NUMBER}),
    ("bounds", "room_of", {"plan": four(), "time": 2, "side": "high"}, 4, {"time": NO_TIME, "side": NO_SIDE}),
    ("bounds", "needless", {"plan": four()}, [(1, "high"), (1, "low"), (2, "high"), (3, "high"), (3, "low")], {}),
    ("bounds", "idle", {"plan": four()}, [(1, "high"), (1, "low"), (2, "high"), (3, "high"), (3, "low")], {}),
    ("bounds", "moved_bound", {"plan": four(), "time": 2, "side": "low", "by": 1},
     Plan([0, 6, 0, 8], [9, 9, 9, 8], [0] * 4, [9] * 4),
     {"time": (4, InvalidTime), "side": NO_SIDE, "by": (5, InvalidPlan)}),
    ("bounds", "shifts", {"plan": four(), "other": Plan([0, 6, 0, 8], [9, 9, 9, 8], [0] * 4, [9] * 4)}, [0, 1, 0, 0],
     {"other": (Plan([8], [8], [0], [9]), InvalidNumber)}),
    ("needs", "plan_of", {"needs": NEEDS, "buffer": 9, "delay": 1, "rate": 4},
     Plan([0, 5, 5, 14, 15], [9, 9, 14, 14, 15], [0] * 5, [4] * 5),
     {"needs": NO_NEEDS, "buffer": NO_NUMBER, "delay": (197, InvalidNumber), "rate": NO_NUMBER}),
    ("needs", "plan_between",
     {"made": [9, 0, 6, 0], "needs": NEEDS, "sender": 6, "receiver": 9, "delay": 1, "rate": 4},
     Plan([3, 5, 9, 14, 15], [9, 9, 14, 14, 15], [0] * 5, [4] * 5),
     {"made": NO_NEEDS, "needs": (None, InvalidNeeds), "sender": NO_NUMBER, "receiver": NO_NUMBER,
      "delay": (197, InvalidNumber), "rate": NO_NUMBER}),
    ("needs", "least_buffer", {"needs": NEEDS, "rate": 3}, 9, {"needs": NO_NEEDS, "rate": NO_NUMBER}),
    ("needs", "buffer_pieces", {"needs": [2, 0, 7, 1]}, [(0, 1, 10, 3), (1, None, 7, 0)], {"needs": NO_NEEDS}),
    ("needs", "least_delay", {"needs": NEEDS, "rate": 3}, 2, {"needs": NO_NEEDS, "rate": NO_NUMBER}),
    ("needs", "least_rate", {"needs": NEEDS, "buffer": 9, "delay": 2}, 3,
     {"needs": NO_NEEDS, "buffer": NO_NUMBER, "delay": NO_NUMBER}),
    ("needs", "trade", {"needs": NEEDS, "buffer": 9, "longest": 6}, [(0, 5), (1, 4), (2, 3)],
     {"needs": NO_NEEDS, "buffer": NO_NUMBER, "longest": (197, InvalidNumber)}),
    ("streams", "joint", {"streams": STREAMS, "least": [0] * 3, "most": [9] * 3},
     Plan([1, 3, 10], [5, 10, 10], [0] * 3, [9] * 3),
     {"streams": NO_STREAMS, "least": (None, InvalidNumber), "most": ([9] * 4, InvalidNumber)}),
    ("streams", "shares", {"streams": STREAMS, "row": [3, 4, 3]}, [[2, 2, 0], [1, 2, 3]],
     {"streams": NO_STREAMS, "row": NO_ROW}),
    ("streams", "gain", {"streams": [([4, 4], [9, 4]), ([0, 8], [1, 8])], "price": (0, [(6, 1)])}, 1,
     {"streams": NO_STREAMS, "price": WRONG_PRICE}),
    ("live", "Sender.add", {"self": Sender(), "low": 0, "high": 5, "least": 1, "most": 3}, None,
     {"low": (None, InvalidPlan), "high": (-1, InvalidPlan), "least": (9, InvalidPlan), "most": (True, InvalidPlan)}),
    ("live", "Sender.undo", {"self": Sender()}, None, {}),
    ("live", "Sender.twin", {"self": Sender()}, None, {}),
    ("live", "live_row", {"plan": four(), "ahead": 0}, [0, 5, 0, 3], {"ahead": NO_NUMBER}),
    ("live", "loss_of", {"plan": four(), "ahead": 0, "price": PRICE}, 11, {"ahead": NO_NUMBER, "price": WRONG_PRICE}),
    ("texts", "write_row", {"row": BEST}, "3 2 2 1", {}),
    ("texts", "read_row", {"text": "3 2 2 1"}, BEST, {"text": ("3  2", InvalidText)}),
    ("texts", "write_plan", {"plan": four()}, TEXT, {}),
    ("texts", "read_plan", {"text": TEXT}, four(), {"text": (TEXT + " ", InvalidText)}),
    ("session", "session", {"rows": "plan " + TEXT + "\nbest"}, "ok\n3 2 2 1", {}),
]

# Functions that are told a plan and don't need its rows.
NEED_NO_ROWS = {"is_row", "has_row", "conflict", "bound_by", "moved_bound", "write_plan"}
# Arguments that are judged by the rows of the plan.
JUDGED = {"row", "amount", "index"}


def called(file, name, arguments):
    """What a function or a method returns, with its arguments by name; objects are copied before."""
    told = copy.deepcopy(arguments)
    thing = importlib.import_module(f"evenbits.{file}")
    if "." in name:
        return getattr(told.pop("self"), name.split(".")[1])(**told)
    return getattr(thing, name)(**told)


def by_position(file, name, arguments):
    told = copy.deepcopy(arguments)
    thing = importlib.import_module(f"evenbits.{file}")
    if "." in name:
        return getattr(told.pop("self"), name.split(".")[1])(*told.values())
    return getattr(thing, name)(*told.values())


def lists_in(thing):
    """All lists in a value, also those in lists and tuples."""
    found = [thing] if isinstance(thing, list) else []
    if isinstance(thing, (list, tuple)):
        for part in thing:
            found += lists_in(part)
    return found


class InterfaceTest(unittest.TestCase):
    """Points 5 to 18: names, arguments, and where they stand."""

    def test_signatures(self):
        for file, name, arguments, _, _ in CALLS:
            thing = importlib.import_module(f"evenbits.{file}")
            for part in name.split("."):
                thing = getattr(thing, part)
            names = list(arguments)
            self.assertEqual(list(inspect.signature(thing).parameters), names, msg=name)
            self.assertEqual(thing.__module__, f"evenbits.{file}")
            for parameter in inspect.signature(thing).parameters.values():
                self.assertEqual(parameter.kind, parameter.POSITIONAL_OR_KEYWORD)
                self.assertIs(parameter.default, parameter.empty)

    def test_defined_in_the_file(self):
        for file, name, _, _, _ in CALLS:
            thing = importlib.import_module(f"evenbits.{file}")
            for part in name.split("."):
                self.assertIn(part, vars(thing))
                thing = getattr(thing, part)

    def test_errors(self):
        self.assertEqual(EvenError.__bases__, (ValueError,))
        told = {"InvalidPlan", "InvalidRow", "InvalidTime", "InvalidSide", "InvalidNumber", "InvalidPrice",
                "InvalidNeeds", "InvalidStreams", "InvalidIndex", "NothingToUndo", "NoRow", "InvalidText"}
        for name in told:
            self.assertEqual(getattr(errors, name).__bases__, (EvenError,))
            self.assertEqual(getattr(errors, name).__module__, "evenbits.errors")
        error = NoRow(last=5, first=2)
        self.assertEqual((error.first, error.last, InvalidText(place=3).place), (2, 5, 3))

    def test_properties(self):
        for kind, names in ((Plan, ("times", "low", "high", "least", "most", "total")),
                            (Sender, ("known", "reach", "sure", "first_open"))):
            for name in names:
                self.assertIsInstance(vars(kind)[name], property)
            self.assertIn("__len__", vars(kind))
        self.assertIn("__eq__", vars(Plan))
        self.assertNotIn("__eq__", vars(Sender))

    def test_by_name_and_by_position(self):
        for file, name, arguments, told, _ in CALLS:
            if name not in ("Sender.undo", "Sender.twin"):
                self.assertEqual(called(file, name, arguments), told, msg=name)
                self.assertEqual(by_position(file, name, arguments), told, msg=name)
                backwards = dict(reversed(arguments.items()))
                self.assertEqual(called(file, name, backwards), told, msg=name)


class GeneralRulesTest(unittest.TestCase):
    """Point 2."""

    def test_equal_results_and_new_lists(self):
        for file, name, arguments, told, _ in CALLS:
            if "Sender" not in name:
                first, second = called(file, name, arguments), called(file, name, arguments)
                self.assertEqual(first, second, msg=name)
                self.assertIs(type(first), type(told), msg=name)
                found = lists_in(first) + lists_in(second)
                self.assertEqual(len({id(part) for part in found}), len(found), msg=name)

    def test_arguments_stay_and_are_not_returned(self):
        for file, name, arguments, _, _ in CALLS:
            if "." not in name:
                told = copy.deepcopy(arguments)
                function = getattr(importlib.import_module(f"evenbits.{file}"), name)
                result = function(**told)
                self.assertEqual(told, arguments, msg=name)
                inner = {id(part) for argument in told.values() for part in lists_in(argument)}
                self.assertFalse(inner & {id(part) for part in lists_in(result)}, msg=name)
                for part in lists_in(result):
                    part.append(None)
                self.assertEqual(told, arguments, msg=name)

    def test_no_plan_changes_with_a_list(self):
        for file, name, arguments, told, _ in CALLS:
            if isinstance(told, Plan) and "." not in name:
                passed = copy.deepcopy(arguments)
                plan = getattr(importlib.import_module(f"evenbits.{file}"), name)(**passed)
                for argument in passed.values():
                    for part in lists_in(argument):
                        part.append(None)
                self.assertEqual(plan, told, msg=name)
                for bounds in (plan.low, plan.high, plan.least, plan.most):
                    bounds[0] = None
                self.assertEqual(plan, told, msg=name)

    def test_several_wrong_arguments(self):
        """Whichever arguments are wrong: the first one in the signature decides."""
        for file, name, arguments, _, wrong in CALLS:
            for many in range(1, len(wrong) + 1):
                for names in combinations(wrong, many):
                    told = {key: wrong[key][0] if key in names else value for key, value in arguments.items()}
                    first = next(key for key in arguments if key in names)
                    # The bound that is too far is an error behind those of the arguments.
                    later = [key for key in names if wrong[key][1] is not InvalidPlan]
                    if name == "moved_bound" and later:
                        first = later[0]
                    for call in (called, by_position):
                        with self.assertRaises(EvenError, msg=(name, names)) as caught:
                            call(file, name, told)
                        self.assertIs(type(caught.exception), wrong[first][1], msg=(name, names))

    def test_plans_without_rows_beside_wrong_arguments(self):
        for file, name, arguments, _, wrong in CALLS:
            if "plan" not in arguments or name in NEED_NO_ROWS:
                continue
            for many in range(len(wrong) + 1):
                for names in combinations(wrong, many):
                    told = {key: wrong[key][0] if key in names else value for key, value in arguments.items()}
                    told["plan"] = rowless()
                    decisive = [key for key in names if key not in JUDGED]
                    error = wrong[decisive[0]][1] if decisive else NoRow
                    with self.assertRaises(EvenError, msg=(name, names)) as caught:
                        called(file, name, told)
                    self.assertIs(type(caught.exception), error, msg=(name, names))
                    if error is NoRow:
                        self.assertEqual((caught.exception.first, caught.exception.last), conflict(rowless()))

    def test_functions_that_need_no_rows(self):
        plan = rowless()
        self.assertEqual((is_row(plan, [0] * 4), has_row(plan), conflict(plan)), (False, False, (1, 2)))
        self.assertEqual(bound_by(plan, 6, [(1, 2)]), 1)
        self.assertEqual(moved_bound(plan, 1, "high", 1).high, [3, 9, 9, 8])
        self.assertEqual(read_plan(write_plan(plan)), plan)
        self.assertEqual(plan.turned().turned(), plan)

    def test_all_values_may_be_passed_back(self):
        """Answers as arguments, also when they have more digits than what is passed."""
        plan = made_plan(Numbers(191), 40, 10 ** 28, 10 ** 29, 10 ** 28)
        row = emptiest(plan)
        self.assertTrue(is_row(plan.multiplied(GREAT), [entry * GREAT for entry in row]))
        price = (cost_of(row, (GREAT, [(GREAT, GREAT)])), [(bound, GREAT * GREAT) for bound in sorted(row)[:12]])
        if len(set(row[:12])) == 12:
            self.assertGreaterEqual(cost_of(row, price), least_cost(plan, price))
        self.assertEqual(bound_by(plan, 7, excess_paper(plan, 7)), excess(plan, 7))
        self.assertTrue(shows_best(plan, best_row(plan), paper_of(plan)))
        swap = evening_swap(plan, row)
        self.assertTrue(is_row(plan, swapped(row, *swap)))
        self.assertEqual(excess(plan, telling_rate(plan, row)), sum(max(0, x - telling_rate(plan, row))
                                                                    for x in best_row(plan)))
        great = plan.multiplied(GREAT).multiplied(GREAT)
        self.assertEqual(best_row(great.part(0, 20, 0, all_sums(best_row(great))[19])), best_row(great)[:20])

    def test_booleans_are_no_integers(self):
        with self.assertRaises(InvalidPlan):
            Plan([True], [True], [0], [1])
        self.assertFalse(is_row(Plan([1], [1], [0], [1]), [True]))
        self.assertFalse(shows_best(Plan([1], [1], [0], [1]), [1], [(True, 0, "end")]))
        self.assertTrue(shows_best(Plan([1], [1], [0], [1]), [1], [(1, 0, "end")]))
        for error, call in ((InvalidRow, lambda: cost_of([True], PRICE)),
                            (InvalidPrice, lambda: cost_of([1], (0, [(True, 1)]))),
                            (InvalidNeeds, lambda: least_buffer([True], 1)),
                            (InvalidStreams, lambda: shares([([True], [True])], [1])),
                            (InvalidPlan, lambda: Sender().add(0, True, 0, 1))):
            with self.assertRaises(error):
                call()

    def test_any_object(self):
        plan = four()
        for thing in any_objects():
            self.assertIs(is_row(plan, thing), thing == [1, 2, 3, 4] and fits(plan, thing))
            self.assertIs(shows_best(plan, BEST, thing), False)
            self.assertIs(plan == thing, False)
            for error, call in ((InvalidPlan, lambda: Plan(thing, [8] * 3, [0] * 3, [9] * 3)),
                                (InvalidPrice, lambda: slope(plan, thing, 2, 6)),
                                (InvalidStreams, lambda: gain(thing, None)),
                                (InvalidNumber, lambda: joint(STREAMS, thing, None))):
                with self.assertRaises(error):
                    call()


class WholeProgramTest(unittest.TestCase):
    """Points 3, 4 and 6 to 18, one with another."""

    def test_best_rows_of_small_plans(self):
        numbers = Numbers(192)
        for plan in few_times_plans()[::3]:
            rows, best = all_rows(plan), best_by_swaps(plan)
            sums = [all_sums(row) for row in best]
            self.assertEqual(count_best(plan), len(best))
            self.assertEqual([nth_best(plan, index) for index in range(len(best))], best)
            self.assertEqual([row for row in rows if is_best(plan, row)], best)
            self.assertEqual((min(sums), max(sums)), (all_sums(latest_row(plan)), all_sums(best_row(plan))))
            price = drawn_price(numbers, 5, 4)
            least = min(cost_by(row, price) for row in rows)
            for row in best:
                self.assertEqual(cost_by(row, price), least)
                self.assertTrue(all(compare(row, other) in ("same", "evener") for other in rows))
            for time in range(1, len(plan) + 1):
                told = {amount: cost_through(plan, price, time, amount)
                        for amount in range(sum_range(plan, time)[0], sum_range(plan, time)[1] + 1)}
                self.assertEqual(min(told.values()), least)
                for amount in told:
                    if count_through(plan, time, amount):
                        self.assertEqual(told[amount], least)

    def test_one_plan_turned_negated_lifted_and_multiplied(self):
        for plan in few_times_plans()[::5] + many_times_plans()[::7]:
            first, latest = best_row(plan), latest_row(plan)
            # Behind a time comes the total less the sum there: what is latest backwards is first forwards.
            self.assertEqual(latest_row(plan.turned()), first[::-1])
            self.assertEqual(latest_row(plan.negated()), [-entry for entry in first])
            self.assertEqual(best_row(plan.lifted(7)), [entry + 7 for entry in first])
            self.assertEqual(tied_times(plan.turned()), [len(plan) - time for time in tied_times(plan)][::-1])
            self.assertEqual(same_entries(plan.lifted(-3)), same_entries(plan))
            self.assertEqual(shortfall(plan, 2), excess(plan.negated(), -2))
            self.assertEqual(compare(latest, first), "same")
            double = plan.joined(plan)
            self.assertEqual(sum_range(double, len(plan)), (plan.total, plan.total))
            self.assertEqual(best_row(double), first + first)

    def test_papers_prices_and_points(self):
        for plan in many_times_plans()[::5]:
            row, entries = best_row(plan), best_entries(plan)
            for part in stretches(plan):
                self.assertTrue(part[2] <= part[3] <= peak(plan))
            self.assertEqual(tops(plan, len(plan)), plan.total)
            self.assertEqual(tops(plan, 1), entries[-1])
            for time in (1, len(plan) // 2, len(plan)):
                self.assertEqual(through(plan, time, all_sums(row)[time - 1]), row)
            distance, near = nearest_best(plan, fullest(plan))
            self.assertTrue(is_best(plan, near) and distance >= 0)
            self.assertEqual(nearest_best(plan, near), (0, near))
            self.assertEqual(nth_best(plan, best_index(plan, near)), near)

    def test_bounds_without_need(self):
        for plan in few_times_plans()[::4]:
            for time, side in needless(plan):
                self.assertIn((time, side), idle(plan))
                wide = plan.loosened(time, side)
                self.assertEqual((best_row(wide), latest_row(wide)), (best_row(plan), latest_row(plan)))
            for time in range(1, len(plan)):
                up = room_of(plan, time, "low")
                self.assertEqual(shifts(plan, moved_bound(plan, time, "low", up)), [0] * len(plan))

    def test_frames_from_needs_to_rows(self):
        needs = [5, 0, 9, 1, 0, 0, 14, 2]
        for delay, rate in trade(needs, 14, 20):
            plan = plan_of(needs, 14, delay, rate)
            self.assertTrue(has_row(plan))
            self.assertLessEqual(peak(plan), rate)
            if rate > 0:
                self.assertFalse(has_row(plan_of(needs, 14, delay, rate - 1)))
            self.assertEqual(least_rate(needs, 14, delay), rate)
            self.assertLessEqual(least_delay(needs, rate), delay)
            between = plan_between(needs, needs, 31, 14, delay, rate)
            self.assertTrue(all(one <= two for one, two in zip(between.high, plan.high)))

    def test_streams_share_a_best_row(self):
        streams = [([0, 2, 4, 9], [3, 4, 8, 9]), ([1, 1, 6, 7], [2, 6, 6, 7]), ([-3, 0, 0, 2], [0, 2, 5, 2])]
        plan = joint(streams, [-20] * 4, [20] * 4)
        parts = shares(streams, best_row(plan))
        self.assertEqual([sum(entries) for entries in zip(*parts)], best_row(plan))
        for price in ((0, [(4, 1)]), (3, [(1, 2), (5, 1)])):
            self.assertGreaterEqual(gain(streams, price), 0)

    def test_a_sender_and_the_plan_that_it_begins(self):
        for plan in few_times_plans()[::4] + many_times_plans()[::9]:
            sender = Sender()
            for bounds in zip(plan.low, plan.high, plan.least, plan.most):
                sender.add(*bounds)
            told = [None] * len(plan)
            for time in tied_times(plan) + [len(plan)]:
                told[time - 1] = all_sums(best_row(plan))[time - 1]
            self.assertEqual(sender.sure, tuple(told))
            self.assertEqual(sender.reach, (plan.total, plan.total))
            self.assertEqual(live_row(plan, len(plan)), latest_row(plan))
            self.assertEqual(loss_of(plan, len(plan), PRICE), 0)
            for at in range(len(plan)):
                self.assertEqual(len(sender), len(plan) - at)
                sender.undo()
            with self.assertRaises(NothingToUndo):
                sender.undo()

    def test_texts_and_sessions(self):
        for plan in few_times_plans()[::6]:
            lines = f"plan {write_plan(plan)}\nbest\nlatest\nentries\ncount\nis {write_row(emptiest(plan))}\nexcess 1"
            answers = session(lines).split("\n")
            self.assertEqual([read_row(answer) for answer in answers[1:4]],
                             [best_row(plan), latest_row(plan), best_entries(plan)])
            best = "yes" if is_best(plan, emptiest(plan)) else "no"
            self.assertEqual(answers[4:], [str(count_best(plan)), best, str(excess(plan, 1))])

    def test_rows_and_conflicts(self):
        for plan in rowless_plans():
            s, t = conflict(plan)
            low, high = [0] + plan.low, [0] + plan.high
            self.assertTrue(low[t] - high[s] > sum(plan.most[s:t]) or low[s] + sum(plan.least[s:t]) > high[t])
        for plan in many_times_plans()[::6]:
            self.assertIsNone(conflict(plan))
            for time in (0, 1, len(plan)):
                ends = [([0] + sums_of(row))[time] for row in (emptiest(plan), fullest(plan))]
                self.assertEqual(sum_range(plan, time), tuple(ends))


if __name__ == "__main__":
    unittest.main()
