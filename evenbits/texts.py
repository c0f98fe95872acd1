"""Texts of rows and of plans: each value has exactly one."""

from evenbits.common import MOST_TIMES
from evenbits.errors import InvalidText
from evenbits.plans import Plan

MOST_DIGITS = 30


def write_row(row):
    """The text of a row."""
    return " ".join([str(entry) for entry in row])


def read_row(text):
    """The row of a text."""
    return [told[0] for told in _read_words(text, 1)]


def write_plan(plan):
    """The text of a plan."""
    bounds = list(zip(plan.low, plan.high, plan.least, plan.most))
    return " ".join([f"{low}:{high}:{least}:{most}" for low, high, least, most in bounds])


def read_plan(text):
    """The plan of a text."""
    told = _read_words(text, 4)
    if told[-1][0] != told[-1][1]:
        raise InvalidText(len(told))
    low, high = [bounds[0] for bounds in told], [bounds[1] for bounds in told]
    return Plan(low, high, [bounds[2] for bounds in told], [bounds[3] for bounds in told])


def number_of(word):
    """The number that a word is the text of, or None."""
    digits = word.removeprefix("-")
    if not digits.isdecimal() or len(digits) > MOST_DIGITS:
        return None
    number = int(word)
    # Zeros ahead and -0 are other texts of a number than its own.
    return number if str(number) == word else None


def _read_words(text, many):
    """The lists of so many numbers that the words of a text tell."""
    told = []
    for place, word in enumerate(text.split(" ")):
        numbers = [number_of(part) for part in word.split(":")]
        if place == MOST_TIMES or len(numbers) != many or None in numbers or not _is_upwards(numbers):
            raise InvalidText(place)
        told.append(numbers)
    return told


def _is_upwards(numbers):
    """Whether no lower bound of a pair of bounds is above its upper one."""
    return all([low <= high for low, high in zip(numbers[::2], numbers[1::2])])
