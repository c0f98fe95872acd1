"""Points 3 and 15: streams that share one channel."""

import unittest
from itertools import product

from evenbits import streams as streams_file
from evenbits.best import best_row
from evenbits.errors import InvalidNumber, InvalidPrice, InvalidRow, InvalidStreams
from evenbits.plans import Plan
from evenbits.prices import cost_of, least_cost
from evenbits.rows import fullest
from evenbits.streams import gain, joint, shares
from helpers import (
    GREAT, WHOLE_LISTS, Numbers, all_sums, any_objects, cost_by, drawn_price, lists_of, no_prices, tried_swaps)


def two_streams():
    return [([0, 2, 4], [3, 4, 4]), ([1, 1, 6], [2, 6, 6])]


def drawn_streams(numbers, many, times, size):
    """Streams with bounds of every kind; some of them leave no room at some times."""
    found = []
    for _ in range(many):
        low, amount = [], 0
        for _ in range(times):
            amount += numbers.wide(-size // 3, size)
            low.append(amount)
        high = [bound + numbers.one_of((0, 1, numbers.wide(0, size), numbers.wide(0, 5 * size))) for bound in low]
        found.append((low, high[:-1] + low[-1:]))
    return found


def small_streams(seed=151, many=150):
    """One to three streams of one to three times with few sums each."""
    numbers = Numbers(seed)
    return [drawn_streams(numbers, 1 + number % 3, 1 + number // 3 % 3, 1 + number % 2) for number in range(many)]


def great_streams(seed=152):
    numbers = Numbers(seed)
    found = [drawn_streams(numbers, numbers.between(1, 4), numbers.between(1, 40), size)
             for size in (4, 60, 10 ** 28) for _ in range(8)]
    return found + [drawn_streams(numbers, 20, 30, 10 ** 6), drawn_streams(numbers, 20, 1, GREAT // 10),
                    drawn_streams(numbers, 2, 200, 50), drawn_streams(numbers, 1, 200, GREAT // 10 ** 4)]


def added(rows):
    return [sum(entries) for entries in zip(*rows, strict=True)]


def bounds_of(streams):
    return added([low for low, _ in streams]), added([high for _, high in streams])


def entries_of(sums):
    return [after - before for before, after in zip([0] + list(sums), sums)]


def wide_plan(low, high):
    """The plan with bounds of entries far beyond all that the sums allow."""
    reach = sum(abs(bound) for bound in low + high) + 1
    return Plan(low, high, [-reach] * len(low), [reach] * len(low))


def drawn_row(numbers, streams):
    """A row with sums within the joint bounds, some of them at the bounds."""
    sums = [numbers.one_of((low, high, numbers.wide(low, high))) for low, high in zip(*bounds_of(streams))]
    return entries_of(sums)


def all_rows_within(low, high):
    return [entries_of(sums) for sums in product(*[range(least, most + 1) for least, most in zip(low, high)])]


def shares_by_trying(streams, row):
    """Of all ways to share the row: the one whose first sums are the greatest at all times, and so on."""
    ways = []
    for parts in product(*[all_rows_within(low, high) for low, high in streams[:-1]]):
        last = [entry - told for entry, told in zip(row, added(list(parts) + [[0] * len(row)]))]
        low, high = streams[-1]
        if all(bottom <= amount <= top for bottom, amount, top in zip(low, all_sums(last), high)):
            ways.append(list(parts) + [last])
    for at in range(len(streams)):
        sums = [all_sums(way[at]) for way in ways]
        greatest = [max(amounts) for amounts in zip(*sums)]
        ways = [way for way in ways if all_sums(way[at]) == greatest]
    assert len(ways) == 1
    return ways[0]


def no_streams():
    """Objects that are no streams."""
    good = ([0, 5], [3, 5])
    return any_objects() + [
        good, (good,), [list(good)], [good, None], [good, list(good)], [good, ([0], [0])], [([0], [0]), good],
        [good, ([0, 1, 5], [3, 4, 5])], [([0, 5], [3, 6])], [([0, 5], [3, 4])], [([4, 5], [3, 5])], [([0, 5],)],
        [([0, 5], [3, 5], [3, 5])], [([], [])], [([0, 5], [5])], [([5], [0, 5])], [((0, 5), [3, 5])],
        [([0, 5], (3, 5))], [([True, 5], [3, 5])], [([0, 5], [True, 5])], [([0, 5], [3, None])], [([0, "5"], [3, 5])],
        [(None, [3, 5])], [([0, 5], None)], [([0] * 201, [0] * 201)], [good] * 21, [good] * 20 + [None],
        [good, ([0, 5], [3, 6])], [good, ([4, 5], [3, 5])], {"a": good}, [{"low": [0, 5], "high": [3, 5]}],
        [Plan([0, 5], [3, 5], [0, 0], [9, 9])], [([0, 5], [3, 5.0])], [([False], [False])]]


class JointTest(unittest.TestCase):

    def test_examples(self):
        self.assertEqual(joint(two_streams(), [0, 0, 0], [9, 9, 9]),
                         Plan([1, 3, 10], [5, 10, 10], [0, 0, 0], [9, 9, 9]))
        self.assertEqual(joint(most=[1], least=[1], streams=[([-4], [-4])]), Plan([-4], [-4], [1], [1]))

    def test_added_bounds(self):
        numbers = Numbers(153)
        for streams in small_streams() + great_streams():
            low, high = bounds_of(streams)
            least = [numbers.wide(-GREAT, GREAT) for _ in low]
            most = [bound + numbers.wide(0, GREAT) for bound in least]
            self.assertEqual(lists_of(joint(streams, least, most)), (low, high, least, most))

    def test_twenty_streams_and_two_hundred_times(self):
        stream = ([0] * 199 + [7], [GREAT] * 199 + [7])
        plan = joint([stream] * 20, [0] * 200, [0] * 200)
        self.assertEqual((plan.low, plan.high), ([0] * 199 + [140], [20 * GREAT] * 199 + [140]))
        with self.assertRaises(InvalidStreams):
            joint([stream] * 21, [0] * 200, [0] * 200)
        with self.assertRaises(InvalidStreams):
            joint([([0] * 201, [0] * 201)], [0] * 201, [0] * 201)

    def test_no_rows_are_needed(self):
        plan = joint(two_streams(), [0, 0, 0], [1, 1, 1])
        self.assertEqual(plan.most, [1, 1, 1])

    def test_wrong_bounds_of_entries(self):
        good = [0, 0, 0]
        for thing in any_objects() + [[0, 0], [0, 0, 0, 0], (0, 0, 0), [0, 0, True], [0, None, 0], [0] * 200]:
            for least, most in ((thing, good), (good, thing), (thing, thing), (thing, None)):
                with self.assertRaises(InvalidNumber, msg=repr(thing)[:100]):
                    joint(two_streams(), least, most)
        for least, most in (([0, 0, 1], [9, 9, 0]), ([1, 0, 0], [0, 9, 9]), ([0, GREAT, 0], [0, -GREAT, 0])):
            with self.assertRaises(InvalidNumber):
                joint(two_streams(), least, most)
        for thing in WHOLE_LISTS:
            self.assertEqual(len(joint([(thing, thing)], thing, thing)), len(thing))

    def test_streams_come_first(self):
        for thing in no_streams():
            for least, most in (([0, 0], [9, 9]), (None, True), ([1], [0])):
                with self.assertRaises(InvalidStreams, msg=repr(thing)[:100]):
                    joint(thing, least, most)


class SharesTest(unittest.TestCase):

    def test_examples(self):
        self.assertEqual(shares(two_streams(), [3, 4, 3]), [[2, 2, 0], [1, 2, 3]])
        self.assertEqual(shares(two_streams(), [1, 2, 7]), [[0, 2, 2], [1, 0, 5]])
        self.assertEqual(shares(row=[5, 5, 0], streams=two_streams()), [[3, 1, 0], [2, 4, 0]])
        self.assertEqual(shares([([-4], [-4])], [-4]), [[-4]])

    def test_small_ones_by_trying(self):
        tried = 0
        for streams in small_streams():
            rows = all_rows_within(*bounds_of(streams))
            for row in rows[::1 + len(rows) // 12]:
                tried += 1
                self.assertEqual(shares(streams, row), shares_by_trying(streams, row))
        self.assertGreater(tried, 500)

    def test_many_streams(self):
        numbers = Numbers(154)
        for streams in great_streams():
            for _ in range(4):
                row = drawn_row(numbers, streams)
                told = shares(streams, row)
                self.assertEqual(len(told), len(streams))
                self.assertEqual(added(told), row)
                left = all_sums(row)
                for at, (low, high) in enumerate(streams):
                    sums = all_sums(told[at])
                    behind = added([own for own, _ in streams[at + 1:]] + [[0] * len(row)])
                    for bottom, amount, top, rest, needed in zip(low, sums, high, left, behind):
                        self.assertTrue(bottom <= amount <= top)
                        self.assertTrue(amount == top or amount + needed == rest)
                    left = [rest - amount for rest, amount in zip(left, sums)]

    def test_rows_at_and_beyond_the_joint_bounds(self):
        for streams in small_streams()[::5] + great_streams()[::3]:
            low, high = bounds_of(streams)
            self.assertEqual(shares(streams, entries_of(low)), [entries_of(own) for own, _ in streams])
            self.assertEqual(shares(streams, entries_of(high)), [entries_of(own) for _, own in streams])
            for at in {0, len(low) // 2, len(low) - 1}:
                for sums, by in ((low, -1), (high, 1)):
                    beyond = sums[:at] + [sums[at] + by] + sums[at + 1:]
                    with self.assertRaises(InvalidRow):
                        shares(streams, entries_of(beyond))

    def test_no_bounds_of_entries(self):
        self.assertEqual(shares([([-GREAT, 0], [GREAT, 0])], [GREAT, -GREAT]), [[GREAT, -GREAT]])

    def test_wrong_rows(self):
        for thing in any_objects() + [[3, 4], [3, 4, 3, 0], (3, 4, 3), [3, 4, True], [3, None, 3], [3, 4, "3"],
                                      [3, 4, 4], [3, 4, 2], [0, 7, 3], [6, 1, 3]]:
            with self.assertRaises(InvalidRow, msg=repr(thing)[:100]):
                shares(two_streams(), thing)

    def test_streams_come_first(self):
        for thing in no_streams():
            for row in ([0, 5], None, []):
                with self.assertRaises(InvalidStreams, msg=repr(thing)[:100]):
                    shares(thing, row)

    def test_twenty_streams(self):
        streams = [([0, 1], [1, 1])] * 20
        told = shares(streams, [7, 13])
        self.assertEqual(told, [[1, 0]] * 7 + [[0, 1]] * 13)
        self.assertEqual(len({id(part) for part in told}), 20)
        with self.assertRaises(InvalidStreams):
            shares(streams + streams[:1], [7, 14])


class GainTest(unittest.TestCase):

    def test_examples(self):
        price = (0, [(2, 1), (3, 1)])
        self.assertEqual(gain(two_streams(), price), 0)
        streams = [([0, 6], [0, 6]), ([6, 6], [6, 6])]
        self.assertEqual(gain(streams, (0, [(6, 1)])), 0)
        streams = [([0, 4], [2, 4]), ([0, 4], [1, 4])]
        self.assertEqual(gain(streams, (0, [(4, 1)])), 0)
        self.assertEqual(gain(price=(3, []), streams=two_streams()), 0)

    def test_sharing_saves(self):
        # Alone the first one gets [4, 0] and the second one [1, 7]: together 5 and 7, shared 6 and 6.
        streams = [([4, 4], [9, 4]), ([0, 8], [1, 8])]
        self.assertEqual(gain(streams, (0, [(6, 1)])), 1)
        self.assertEqual(gain(streams, (0, [(5, 10)])), 0)
        self.assertEqual(gain(streams, (-100, [(6, 1), (7, 5)])), 1)

    def test_odd_totals_go_to_the_first_time(self):
        # The best rows with the greatest sums are [2, 1] each; together they are less even than [3, 3].
        self.assertEqual(gain([([0, 3], [3, 3])] * 2, (0, [(3, 1)])), 1)

    def test_small_ones_by_trying(self):
        numbers = Numbers(155)
        for streams in small_streams(156, 90):
            price = drawn_price(numbers, numbers.between(0, 12), 4)
            alone = []
            for low, high in streams:
                best = [row for row in all_rows_within(low, high) if not tried_swaps(wide_plan(low, high), row)]
                alone.append(max(best, key=all_sums))
            least = min(cost_by(row, price) for row in all_rows_within(*bounds_of(streams)))
            self.assertEqual(gain(streams, price), cost_by(added(alone), price) - least)

    def test_many_streams(self):
        numbers = Numbers(157)
        for streams in great_streams():
            price = drawn_price(numbers, 8, 10 ** 9)
            told = gain(streams, price)
            alone = [best_row(wide_plan(low, high)) for low, high in streams]
            self.assertEqual(told, cost_of(added(alone), price) - least_cost(wide_plan(*bounds_of(streams)), price))
            self.assertGreaterEqual(told, 0)
            for stream in streams[:2]:
                self.assertEqual(gain([stream], price), 0)
            self.assertEqual(gain(streams, (price[0], [])), 0)

    def test_wrong_prices(self):
        for price in no_prices():
            with self.assertRaises(InvalidPrice, msg=repr(price)[:100]):
                gain(two_streams(), price)

    def test_streams_come_first(self):
        for thing in no_streams():
            for price in ((0, []), None):
                with self.assertRaises(InvalidStreams, msg=repr(thing)[:100]):
                    gain(thing, price)


class GeneralTest(unittest.TestCase):

    def test_told_lists_may_change(self):
        streams, least, most = two_streams(), [0, 0, 0], [9, 9, 9]
        plan = joint(streams, least, most)
        streams[0][0][0], least[0], most[2] = -50, -7, 50
        streams.pop()
        self.assertEqual(lists_of(plan), ([1, 3, 10], [5, 10, 10], [0, 0, 0], [9, 9, 9]))
        self.assertEqual(fullest(plan), [5, 5, 0])

    def test_arguments_stay_and_lists_are_new(self):
        streams, row, price = two_streams(), [3, 4, 3], (0, [(2, 1)])
        told = shares(streams, row)
        told[0].append(None)
        told.pop()
        self.assertEqual(shares(streams, row), [[2, 2, 0], [1, 2, 3]])
        single = shares(streams[:1], [2, 2, 0])
        self.assertIsNot(single[0], row)
        gain(streams, price), joint(streams, row, row)
        self.assertEqual((streams, row, price), (two_streams(), [3, 4, 3], (0, [(2, 1)])))

    def test_defined_in_the_file(self):
        for call in (joint, shares, gain):
            self.assertEqual(call.__module__, "evenbits.streams")
            self.assertIs(getattr(streams_file, call.__name__), call)


if __name__ == "__main__":
    unittest.main()
