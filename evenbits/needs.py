"""Plans for frames of different sizes, and the least reservoir, delay and rate with which they come in time."""

from evenbits.common import MOST_TIMES, is_whole, is_whole_list, sums_from_zero
from evenbits.errors import InvalidNeeds, InvalidNumber, NoRow
from evenbits.plans import Plan


def plan_of(needs, buffer, delay, rate):
    """The plan of frames that are taken from a reservoir of the receiver."""
    _check_needs(needs)
    _check_numbers([buffer, delay, rate])
    _check_length(needs, delay)
    taken = _taken_by(needs, delay)
    high = [min(taken[-1], before + buffer) for before in taken[:-1]]
    return _plan_within(taken[1:], high, rate)


def plan_between(made, needs, sender, receiver, delay, rate):
    """The plan of frames that wait in a reservoir of the sender, and then in one of the receiver."""
    _check_needs(made)
    _check_needs(needs)
    if len(made) != len(needs) or sum(made) != sum(needs):
        raise InvalidNeeds("as many bits are made as are taken, in equally many frames")
    _check_numbers([sender, receiver, delay, rate])
    _check_length(needs, delay)
    taken = _taken_by(needs, delay)
    coded = sums_from_zero(made) + [taken[-1]] * delay
    low = [max(gone, come - sender) for gone, come in zip(taken[1:], coded[1:])]
    # What has been made is never more than the total.
    high = [min(come, before + receiver) for come, before in zip(coded[1:], taken)]
    return _plan_within(low, high, rate)


def least_buffer(needs, rate):
    """The greatest sum of neighbouring frames, less the rate for each but one of them."""
    _check_needs(needs)
    _check_numbers([rate])
    return _buffer_at(needs, rate)


def buffer_pieces(needs):
    """The least buffer for all rates, as tuples (low, high, value, fall): value - fall * (rate - low) up to high."""
    _check_needs(needs)
    widest = _greatest_sums(needs)
    pieces, low = [], 0
    while low is not None:
        value = _buffer_at(needs, low)
        fall = value - _buffer_at(needs, low + 1)
        # Fewer frames lose less by a greater rate: the piece goes on until some of them need more than it tells.
        ends = [(value + fall * low - amount) // (fall - steps) for steps, amount in enumerate(widest[:fall])]
        high = min(ends, default=None)
        pieces.append((low, high, value, fall))
        low = high
    return pieces


def least_delay(needs, rate):
    """The least delay with which all frames come in time if the reservoir is great enough, or None."""
    _check_needs(needs)
    _check_numbers([rate])
    sums = sums_from_zero(needs)
    if rate == 0:
        return 0 if sums[-1] == 0 else None
    return max([_divided_up(amount, rate) - frame for frame, amount in enumerate(sums)])


def least_rate(needs, buffer, delay):
    """The least rate with which the plan of the frames has a row, or None."""
    _check_needs(needs)
    _check_numbers([buffer, delay])
    _check_length(needs, delay)
    return _rate_for(needs, buffer, delay)


def trade(needs, buffer, longest):
    """Tuples (delay, rate) of the delays with which a lesser rate is enough than with each lesser delay."""
    _check_needs(needs)
    _check_numbers([buffer, longest])
    _check_length(needs, longest)
    pairs = []
    for delay in range(longest + 1):
        rate = _rate_for(needs, buffer, delay)
        if rate is not None and (len(pairs) == 0 or rate < pairs[-1][1]):
            pairs.append((delay, rate))
    return pairs


def _check_needs(needs):
    """Raises InvalidNeeds unless an object is a list of 1 to 200 integers from 0 on."""
    if not is_whole_list(needs) or min(needs) < 0:
        raise InvalidNeeds("frames are told by a list of 1 to 200 integers from 0 on")


def _check_numbers(numbers):
    """Raises InvalidNumber unless all numbers are integers from 0 on."""
    if not all([is_whole(number) and number >= 0 for number in numbers]):
        raise InvalidNumber("an integer from 0 on is asked for")


def _check_length(needs, delay):
    """Raises InvalidNumber if frames and delay are too many times for a plan."""
    if len(needs) + delay > MOST_TIMES:
        raise InvalidNumber("frames and delay are together at most 200")


def _taken_by(needs, delay):
    """The sums of the frames that are taken by the times 0 to n."""
    return [0] * delay + sums_from_zero(needs)


def _plan_within(low, high, rate):
    """The plan between bounds of the sums, if no lower one is above its upper one."""
    for time in range(1, len(low) + 1):
        if low[time - 1] > high[time - 1]:
            raise NoRow(time, time)
    return Plan(low, high, [0] * len(low), [rate] * len(low))


def _buffer_at(needs, rate):
    """The least buffer at a rate."""
    held = most = 0
    for size in needs:
        # Frames before this one only count if they are more than what comes until it is taken.
        held = max(0, held - rate) + size
        most = max(most, held)
    return most


def _greatest_sums(needs):
    """The greatest sums of 1, 2, .. neighbouring frames."""
    sums = sums_from_zero(needs)
    return [max([after - before for before, after in zip(sums, sums[many:])]) for many in range(1, len(sums))]


def _rate_for(needs, buffer, delay):
    """The least rate with which the plan of the frames has a row, or None."""
    if max(needs) > buffer:
        return None
    plan = plan_of(needs, buffer, delay, 0)
    low, high = [0] + plan.low, [0] + plan.high
    # The other condition of R1 holds, as the lower bounds never fall.
    return max([_divided_up(low[t] - high[s], t - s) for s in range(len(plan)) for t in range(s + 1, len(plan) + 1)])


def _divided_up(number, by):
    """The least integer that is not less than a number divided by another one."""
    return -(-number // by)
