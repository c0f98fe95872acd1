"""Points 3, 4 (R1) and 14: plans for frames, and the least reservoir, delay and rate for them."""

import unittest

from evenbits import needs as needs_file
from evenbits.errors import InvalidNeeds, InvalidNumber, NoRow
from evenbits.needs import buffer_pieces, least_buffer, least_delay, least_rate, plan_between, plan_of, trade
from evenbits.plans import Plan
from evenbits.rows import fullest, has_row
from helpers import GREAT, WHOLE_LISTS, Numbers, all_sums, any_objects, lists_of

WRONG_NUMBERS = (-1, -GREAT, True, False, None, "1", [1])


def no_needs():
    """Objects that are no list of 1 to 200 integers from 0 on."""
    return [thing for thing in any_objects() if thing not in WHOLE_LISTS] + [
        [-1], [0, -1], [3, -GREAT, 5], [1, 2, -1], [True], [0, False], (1, 2), [0] * 200 + [0], [1, None]]


def drawn_needs(numbers, many, size):
    """Frames of which about every third one is empty and every fourth one is great."""
    sizes = []
    for _ in range(many):
        kind = numbers.between(0, 11)
        sizes.append(0 if kind < 4 else numbers.wide(size // 2, size) if kind < 7 else numbers.wide(0, size // 5 + 1))
    return sizes


def some_needs(seed=140):
    """Frames of every kind: few and many, empty ones, small and great ones."""
    numbers = Numbers(seed)
    found = [[0], [5], [0, 0, 0], [GREAT], [3, 3, 3, 3], [0, 0, 9], [9, 0, 0], [0] * 200]
    return found + [drawn_needs(numbers, numbers.between(1, 12), size) for size in (3, 9, 40) for _ in range(15)]


def great_needs(seed=141):
    numbers = Numbers(seed)
    return [drawn_needs(numbers, many, size) for many in (13, 40, 120, 200) for size in (50, 10 ** 29)]


def taken_by(needs, delay, time):
    """What the frames that are taken by a time have, frame after frame."""
    return sum(size for frame, size in enumerate(needs, start=1) if frame + delay <= time)


def told_plan(needs, buffer, delay, rate):
    """The plan by the words of the point: a Plan, or the time at which low is above high."""
    times, total = len(needs) + delay, sum(needs)
    low = [taken_by(needs, delay, time) for time in range(1, times + 1)]
    high = [min(total, (low[time - 2] if time > 1 else 0) + buffer) for time in range(1, times + 1)]
    return made_or_broken(low, high, rate)


def told_between(made, needs, sender, receiver, delay, rate):
    times, total = len(needs) + delay, sum(needs)
    low, high = [], []
    for time in range(1, times + 1):
        ready = sum(made[:time])
        low.append(max(taken_by(needs, delay, time), ready - sender))
        high.append(min(total, ready, taken_by(needs, delay, time - 1) + receiver))
    return made_or_broken(low, high, rate)


def made_or_broken(low, high, rate):
    for time, (bottom, top) in enumerate(zip(low, high), start=1):
        if bottom > top:
            return time
    return Plan(low, high, [0] * len(low), [rate] * len(low))


def told_buffer(needs, rate):
    """The least buffer over all neighbouring frames."""
    return max(sum(needs[i:k + 1]) - rate * (k - i) for i in range(len(needs)) for k in range(i, len(needs)))


def met_in_time(needs, delay, rate):
    """Whether each frame comes in time if the rate is sent at each time."""
    return all(taken_by(needs, 0, frame) <= rate * (frame + delay) for frame in range(1, len(needs) + 1))


def has_row_with(needs, buffer, delay, rate):
    told = told_plan(needs, buffer, delay, rate)
    return isinstance(told, Plan) and has_row(told)


def tried_rate(needs, buffer, delay):
    """The least rate for which the plan has a row, by trying all of them."""
    for rate in range(sum(needs) + 1):
        if has_row_with(needs, buffer, delay, rate):
            return rate
    return None


class CheckedTest(unittest.TestCase):

    def check_plan(self, call, told):
        """The call returns the plan that is told, or raises NoRow with the time that is told."""
        if isinstance(told, Plan):
            self.assertEqual(lists_of(call()), lists_of(told))
        else:
            with self.assertRaises(NoRow) as caught:
                call()
            self.assertEqual((caught.exception.first, caught.exception.last), (told, told))

    def check_errors(self, error, calls):
        for at, call in enumerate(calls):
            with self.assertRaises(error, msg=at):
                call()


class PlanOfTest(CheckedTest):

    def test_examples(self):
        self.assertEqual(plan_of([3, 0, 5], 6, 1, 4), Plan([0, 3, 3, 8], [6, 6, 8, 8], [0] * 4, [4] * 4))
        self.assertEqual(plan_of(rate=4, delay=0, buffer=5, needs=[3, 0, 5]),
                         Plan([3, 3, 8], [5, 8, 8], [0] * 3, [4] * 3))
        self.assertEqual(plan_of([0], 0, 2, 0), Plan([0] * 3, [0] * 3, [0] * 3, [0] * 3))
        self.assertEqual(plan_of([7], GREAT, 0, GREAT), Plan([7], [7], [0], [GREAT]))

    def test_frames_beyond_the_buffer(self):
        for delay in (0, 1, 4):
            self.check_plan(lambda: plan_of([2, 3, 1, 3], 2, delay, 9), 2 + delay)
            self.check_plan(lambda: plan_of([1, 0, 1], 0, delay, 9), 1 + delay)
        self.check_plan(lambda: plan_of([0, 0, GREAT], GREAT - 1, 197, GREAT), 200)

    def test_time_by_time(self):
        for needs in some_needs() + great_needs():
            total, most = sum(needs), max(needs)
            for buffer in {0, 1, most - 1, most, most + 1, (most + total) // 2, total, 2 * total + 5, GREAT}:
                for delay in {0, 1, 2, 7, 200 - len(needs)}:
                    if buffer >= 0 and len(needs) + delay <= 200:
                        rate = (delay + 1) * (buffer + 1) // 2
                        self.check_plan(lambda: plan_of(needs, buffer, delay, rate),
                                        told_plan(needs, buffer, delay, rate))

    def test_no_rate_and_no_rows_are_needed(self):
        self.assertFalse(has_row(plan_of([5, 5], 9, 3, 0)))
        self.assertTrue(has_row(plan_of([0, 0], 0, 3, 0)))
        self.assertFalse(has_row(plan_of([5, 5], 9, 3, 1)))
        self.assertTrue(has_row(plan_of([5, 5], 9, 3, 2)))

    def test_two_hundred_times(self):
        self.assertEqual(len(plan_of([1] * 200, 1, 0, 1)), 200)
        self.assertEqual(len(plan_of([1], 1, 199, 1)), 200)
        self.assertEqual(len(plan_of([1] * 80, 1, 120, 1)), 200)
        self.check_errors(InvalidNumber, [
            lambda: plan_of([1] * 200, 1, 1, 1), lambda: plan_of([1], 1, 200, 1), lambda: plan_of([1] * 80, 1, 121, 1),
            lambda: plan_of([1], 0, 200, 1), lambda: plan_of([1], 1, GREAT, 1)])


class PlanBetweenTest(CheckedTest):

    def test_examples(self):
        self.assertEqual(plan_between([4, 0, 4], [3, 0, 5], 2, 6, 1, 4),
                         Plan([2, 3, 6, 8], [4, 4, 8, 8], [0] * 4, [4] * 4))
        self.assertEqual(plan_between(rate=9, delay=2, receiver=5, sender=3, needs=[1, 4], made=[5, 0]),
                         Plan([2, 2, 2, 5], [5, 5, 5, 5], [0] * 4, [9] * 4))
        self.assertEqual(plan_between([0, 0], [0, 0], 0, 0, 1, 0), Plan([0] * 3, [0] * 3, [0] * 3, [0] * 3))
        self.assertEqual(plan_between([2], [2], 0, 2, 0, 5), Plan([2], [2], [0], [5]))

    def test_made_late(self):
        self.check_plan(lambda: plan_between([0, 0, 6], [1, 2, 3], 9, 9, 0, 9), 1)
        self.check_plan(lambda: plan_between([0, 0, 6], [1, 2, 3], 9, 9, 1, 9), 2)
        self.check_plan(lambda: plan_between([0, 0, 6], [1, 2, 3], 9, 9, 2, 9),
                        Plan([0, 0, 1, 3, 6], [0, 0, 6, 6, 6], [0] * 5, [9] * 5))

    def test_made_early(self):
        self.check_plan(lambda: plan_between([6, 0, 0], [1, 2, 3], 2, 3, 0, 9), 1)
        self.check_plan(lambda: plan_between([6, 0, 0], [1, 2, 3], 3, 3, 0, 9),
                        Plan([3, 3, 6], [3, 4, 6], [0] * 3, [9] * 3))

    def test_time_by_time(self):
        numbers = Numbers(142)
        for needs in some_needs(143) + great_needs(144):
            total, most = sum(needs), max(needs)
            part = numbers.between(0, len(needs) - 1)
            others = [needs, needs[::-1], [total] + [0] * (len(needs) - 1), [0] * (len(needs) - 1) + [total],
                      needs[part:] + needs[:part], sorted(needs), sorted(needs, reverse=True)]
            for made in others:
                for delay in {0, 1, numbers.between(0, 9), 200 - len(needs)}:
                    sender, receiver = [numbers.one_of((0, 1, most, numbers.wide(0, most + 2), most + total // 4,
                                                        total, 3 * total, GREAT)) for _ in range(2)]
                    if len(needs) + delay <= 200:
                        self.check_plan(lambda: plan_between(made, needs, sender, receiver, delay, most),
                                        told_between(made, needs, sender, receiver, delay, most))

    def test_a_great_sender_and_early_bits_bar_nothing(self):
        for needs in some_needs(145):
            made = [sum(needs)] + [0] * (len(needs) - 1)
            for buffer in (max(needs), sum(needs) + 1):
                self.assertEqual(plan_between(made, needs, sum(needs), buffer, 0, 5), plan_of(needs, buffer, 0, 5))

    def test_two_hundred_times(self):
        self.assertEqual(len(plan_between([1] * 200, [1] * 200, 1, 1, 0, 1)), 200)
        self.assertEqual(len(plan_between([1], [1], 1, 1, 199, 1)), 200)
        self.check_errors(InvalidNumber, [
            lambda: plan_between([1] * 200, [1] * 200, 1, 1, 1, 1), lambda: plan_between([1], [1], 1, 1, 200, 1),
            lambda: plan_between([1] * 60, [1] * 60, 1, 1, 141, 1), lambda: plan_between([1], [1], 0, 0, 200, 1)])

    def test_other_lengths_and_totals(self):
        for made, needs in (([1, 2], [1, 1]), ([1, 2], [3]), ([3], [1, 2]), ([0], [1]), ([1, 2, 0], [1, 2]),
                            ([1], no_needs()[0]), ([GREAT], [GREAT - 1])):
            for numbers in ((1, 1, 1, 1), (-1, None, 500, -1)):
                self.check_errors(InvalidNeeds, [lambda: plan_between(made, needs, *numbers)])


class LeastBufferTest(CheckedTest):

    def test_examples(self):
        self.assertEqual([least_buffer([2, 0, 7, 1], rate) for rate in range(4)], [10, 7, 7, 7])
        self.assertEqual([least_buffer([5, 0, 5], rate) for rate in range(5)], [10, 8, 6, 5, 5])
        self.assertEqual(least_buffer(rate=0, needs=[0]), 0)
        self.assertEqual(least_buffer([GREAT, GREAT], 1), 2 * GREAT - 1)

    def test_all_neighbouring_frames(self):
        for needs in some_needs():
            for rate in list(range(12)) + [max(needs), sum(needs), GREAT]:
                self.assertEqual(least_buffer(needs, rate), told_buffer(needs, rate))
        for needs in great_needs()[:-2]:
            for rate in (0, 1, sum(needs) // len(needs), max(needs) // 2, GREAT):
                self.assertEqual(least_buffer(needs, rate), told_buffer(needs, rate))

    def test_the_least_buffer_with_a_row(self):
        for needs in some_needs()[3:]:
            for rate in (1, 2, 5, 11):
                buffer, delay = least_buffer(needs, rate), min(200 - len(needs), sum(needs))
                if least_delay(needs, rate) <= delay:
                    self.assertTrue(has_row_with(needs, buffer, delay, rate))
                    if buffer > 0:
                        self.assertFalse(has_row_with(needs, buffer - 1, delay, rate))


class BufferPiecesTest(CheckedTest):

    def check_pieces(self, needs, pieces):
        """Each piece goes on where the one before it ends, and no two neighbours could be one."""
        self.assertEqual((pieces[0][0], pieces[-1][1]), (0, None))
        for (low, high, _, fall), (low_behind, _, _, fall_behind) in zip(pieces, pieces[1:]):
            self.assertTrue(low < high == low_behind)
            self.assertNotEqual(fall, fall_behind)
        for low, high, value, fall in pieces:
            told = low + 1000 if high is None else high
            for rate in {low, low + 1, low + 2, (low + told) // 2, told - 1, told}:
                if low <= rate <= told:
                    self.assertEqual(value - fall * (rate - low), least_buffer(needs, rate))

    def test_examples(self):
        self.assertEqual(buffer_pieces([2, 0, 7, 1]), [(0, 1, 10, 3), (1, None, 7, 0)])
        self.assertEqual(buffer_pieces([5, 0, 5]), [(0, 2, 10, 2), (2, 3, 6, 1), (3, None, 5, 0)])
        self.assertEqual(buffer_pieces(needs=[4]), [(0, None, 4, 0)])
        self.assertEqual(buffer_pieces([0, 0, 0]), [(0, None, 0, 0)])
        self.assertEqual(buffer_pieces([3, 0, 0]), [(0, None, 3, 0)])
        self.assertEqual(buffer_pieces([2, 2]), [(0, 2, 4, 1), (2, None, 2, 0)])

    def test_each_rate(self):
        for needs in some_needs():
            if max(needs) < 100:
                pieces = buffer_pieces(needs)
                self.check_pieces(needs, pieces)
                rates = range(max(needs) * len(needs) + 3)
                told = [told_buffer(needs, rate) for rate in rates]
                falls = [one - two for one, two in zip(told, told[1:])]
                turns = [rate for rate in rates[1:-1] if falls[rate] != falls[rate - 1]]
                self.assertEqual([low for low, _, _, _ in pieces], [0] + turns)
                self.assertEqual([fall for _, _, _, fall in pieces], [falls[rate] for rate in [0] + turns])

    def test_great_frames(self):
        for needs in great_needs() + [[GREAT] * 200, [GREAT, 0] * 100]:
            pieces = buffer_pieces(needs)
            self.check_pieces(needs, pieces)
            falls = [fall for _, _, _, fall in pieces]
            self.assertEqual(falls, sorted(falls, reverse=True))
            for part in pieces:
                self.assertIsInstance(part, tuple)


class LeastDelayTest(CheckedTest):

    def test_examples(self):
        self.assertEqual([least_delay([4, 0, 5], rate) for rate in range(7)], [None, 6, 2, 1, 0, 0, 0])
        self.assertEqual(least_delay(rate=1, needs=[GREAT]), GREAT - 1)
        self.assertEqual(least_delay([0, 9], 2), 3)
        self.assertEqual([least_delay([0, 0], rate) for rate in (0, 1, GREAT)], [0, 0, 0])
        self.assertIsNone(least_delay([0, 1], 0))
        self.assertIsNone(least_delay([GREAT], 0))

    def test_by_trying(self):
        for needs in some_needs() + great_needs():
            for rate in list(range(8)) + [max(needs), sum(needs) // len(needs) + 1]:
                delay = least_delay(needs, rate)
                if delay is None:
                    self.assertTrue(rate == 0 and sum(needs) > 0)
                else:
                    self.assertGreaterEqual(delay, 0)
                    self.assertTrue(met_in_time(needs, delay, rate))
                    self.assertTrue(delay == 0 or not met_in_time(needs, delay - 1, rate))

    def test_rows_of_the_plan(self):
        for needs in some_needs()[3:]:
            for rate in (0, 1, 3, 10):
                delays = [delay for delay in range(201 - len(needs)) if has_row_with(needs, sum(needs), delay, rate)]
                told = least_delay(needs, rate)
                if delays:
                    self.assertEqual(told, delays[0])
                else:
                    self.assertTrue(told is None or told > 200 - len(needs))


class LeastRateTest(CheckedTest):

    def test_examples(self):
        self.assertEqual(least_rate([5, 0, 9, 1], 9, 0), 5)
        self.assertEqual(least_rate([5, 0, 9, 1], 9, 2), 3)
        self.assertEqual(least_rate([5, 0, 9, 1], 10, 1), 4)
        self.assertIsNone(least_rate([5, 0, 9, 1], 8, 3))
        self.assertEqual(least_rate(delay=0, buffer=0, needs=[0, 0]), 0)
        self.assertEqual(least_rate([GREAT], GREAT, 0), GREAT)
        self.assertEqual(least_rate([GREAT], GREAT, 199), -(-GREAT // 200))

    def test_by_trying_all_rates(self):
        for needs in some_needs():
            most = max(needs)
            for buffer in {0, most - 1, most, most + 1, most + 3, sum(needs)}:
                for delay in (0, 1, 3, 11):
                    if most <= 40 and buffer >= 0 and len(needs) + delay <= 200:
                        self.assertEqual(least_rate(needs, buffer, delay), tried_rate(needs, buffer, delay))

    def test_great_frames(self):
        for needs in great_needs():
            for buffer in (max(needs) - 1, max(needs), 2 * max(needs), GREAT * 200):
                for delay in {0, (200 - len(needs)) // 2, 200 - len(needs)}:
                    rate = least_rate(needs, buffer, delay)
                    if rate is None:
                        self.assertLess(buffer, max(needs))
                    else:
                        self.assertTrue(has_row_with(needs, buffer, delay, rate))
                        self.assertFalse(rate > 0 and has_row_with(needs, buffer, delay, rate - 1))


class TradeTest(CheckedTest):

    def told_trade(self, needs, buffer, longest):
        pairs = []
        for delay in range(longest + 1):
            rate = least_rate(needs, buffer, delay)
            if rate is not None and all(rate < before for _, before in pairs):
                pairs.append((delay, rate))
        return pairs

    def test_examples(self):
        self.assertEqual(trade([5, 0, 9, 1], 9, 6), [(0, 5), (1, 4), (2, 3)])
        self.assertEqual(trade([5, 0, 9, 1], 15, 20), [(0, 5), (1, 4), (2, 3), (4, 2), (11, 1)])
        self.assertEqual(trade(longest=0, buffer=9, needs=[5, 0, 9, 1]), [(0, 5)])
        self.assertEqual(trade([5, 0, 9, 1], 8, 6), [])
        self.assertEqual(trade([0, 0], 0, 198), [(0, 0)])
        self.assertEqual(trade([1], 0, 0), [])

    def test_by_trying(self):
        for needs in some_needs():
            most = max(needs)
            for buffer in {0, most - 1, most, most + 2, sum(needs)}:
                for longest in (0, 1, 5, 14):
                    if most <= 40 and buffer >= 0 and len(needs) + longest <= 200:
                        told = trade(needs, buffer, longest)
                        self.assertEqual(told, self.told_trade(needs, buffer, longest))
                        for delay, rate in told:
                            self.assertEqual(rate, tried_rate(needs, buffer, delay))

    def test_great_frames(self):
        for needs in great_needs()[:6]:
            for buffer in (max(needs) - 1, max(needs), sum(needs)):
                longest = (200 - len(needs)) // 4
                told = trade(needs, buffer, longest)
                self.assertEqual(told, self.told_trade(needs, buffer, longest))
                self.assertEqual(told == [], buffer < max(needs))
                for pair in told:
                    self.assertIsInstance(pair, tuple)

    def test_two_hundred_times(self):
        self.assertEqual(trade([2] * 200, 2, 0), [(0, 2)])
        self.assertEqual(trade([0] * 199 + [1], 1, 0), [(0, 1)])
        self.assertEqual(trade([200], 200, 199)[-1], (199, 1))
        self.check_errors(InvalidNumber, [
            lambda: trade([1] * 200, 1, 1), lambda: trade([1], 1, 200), lambda: trade([1], 0, GREAT),
            lambda: least_rate([1] * 200, 1, 1), lambda: least_rate([1], 0, 200)])
        self.assertEqual(least_rate([1] * 200, 1, 0), 1)


class WrongArgumentsTest(CheckedTest):

    def test_no_needs(self):
        for thing in no_needs():
            for wrong in (1, -1, None, GREAT):
                self.check_errors(InvalidNeeds, [
                    lambda: plan_of(thing, wrong, wrong, wrong), lambda: least_buffer(thing, wrong),
                    lambda: plan_between(thing, [3], wrong, wrong, wrong, wrong),
                    lambda: plan_between([3], thing, wrong, wrong, wrong, wrong),
                    lambda: plan_between(thing, thing, wrong, wrong, wrong, wrong),
                    lambda: buffer_pieces(thing), lambda: least_delay(thing, wrong),
                    lambda: least_rate(thing, wrong, wrong), lambda: trade(thing, wrong, wrong)])

    def test_wrong_numbers(self):
        for wrong in WRONG_NUMBERS:
            self.check_errors(InvalidNumber, [
                lambda: plan_of([3], wrong, 0, 3), lambda: plan_of([3], 3, wrong, 3), lambda: plan_of([3], 3, 0, wrong),
                lambda: plan_between([3], [3], wrong, 3, 0, 3), lambda: plan_between([3], [3], 3, wrong, 0, 3),
                lambda: plan_between([3], [3], 3, 3, wrong, 3), lambda: plan_between([3], [3], 3, 3, 0, wrong),
                lambda: least_buffer([3], wrong), lambda: least_delay([3], wrong), lambda: least_delay([0], wrong),
                lambda: least_rate([3], wrong, 0), lambda: least_rate([3], 3, wrong), lambda: trade([3], wrong, 0),
                lambda: trade([3], 3, wrong)])

    def test_numbers_come_before_the_rows(self):
        self.check_errors(NoRow, [lambda: plan_of([3], 2, 0, 3), lambda: plan_between([3], [3], 3, 2, 0, 3)])
        for wrong in WRONG_NUMBERS:
            self.check_errors(InvalidNumber, [
                lambda: plan_of([3], 2, wrong, 3), lambda: plan_of([3], 2, 0, wrong), lambda: plan_of([3], 2, 200, 3),
                lambda: plan_between([3], [3], 3, 2, wrong, 3), lambda: plan_between([3], [3], 3, 2, 0, wrong)])


class GeneralTest(CheckedTest):

    def test_told_lists_may_change(self):
        needs, made = [3, 0, 5], [4, 0, 4]
        first, second = plan_of(needs, 6, 1, 4), plan_between(made, needs, 2, 6, 1, 4)
        needs[0], made[2] = 100, 100
        self.assertEqual(first.low, [0, 3, 3, 8])
        self.assertEqual(second.low, [2, 3, 6, 8])
        self.assertEqual(fullest(first), [4, 2, 2, 0])

    def test_arguments_stay_and_lists_are_new(self):
        needs, made = [3, 0, 5], [4, 0, 4]
        for call in (lambda: buffer_pieces(needs), lambda: trade(needs, 9, 8)):
            told = call()
            told.append(None)
            self.assertEqual(call(), told[:-1])
        plan_of(needs, 6, 1, 4), plan_between(made, needs, 2, 6, 1, 4)
        least_buffer(needs, 2), least_delay(needs, 2), least_rate(needs, 6, 2)
        self.assertEqual((needs, made), ([3, 0, 5], [4, 0, 4]))

    def test_the_totals_of_the_plan(self):
        for needs in some_needs()[8:]:
            plan = plan_of(needs, sum(needs), 3, 1)
            self.assertEqual((plan.total, plan.low), (sum(needs), [0] * 3 + all_sums(needs)))

    def test_defined_in_the_file(self):
        for call in (plan_of, plan_between, least_buffer, buffer_pieces, least_delay, least_rate, trade):
            self.assertEqual(call.__module__, "evenbits.needs")
            self.assertIs(getattr(needs_file, call.__name__), call)


if __name__ == "__main__":
    unittest.main()
