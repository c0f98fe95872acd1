"""Sessions: lines that ask for a plan, and the answers to them."""

from evenbits.best import best_entries, best_row, latest_row, tied_times
from evenbits.bounds import moved_bound, room_of
from evenbits.counts import count_best
from evenbits.errors import InvalidPlan, InvalidRow, InvalidSide, InvalidText, InvalidTime, NoRow, NothingToUndo
from evenbits.judges import evening_swap, is_best
from evenbits.prices import excess
from evenbits.texts import number_of, read_plan, read_row, write_row

DONE = "ok"
UNKNOWN = "?"


class Desk:
    """The plan that lines ask for, and the plans before the moves that can be taken back."""

    def __init__(self):
        self.plan = None
        self.earlier = []

    def take(self, plan):
        """Puts a new plan on the desk."""
        self.plan = plan
        self.earlier = []

    def move(self, time, side, by):
        """Replaces the plan by the one with a moved bound."""
        other = moved_bound(self.plan, time, side, by)
        self.earlier.append(self.plan)
        self.plan = other

    def back(self):
        """Takes the last move back."""
        if len(self.earlier) == 0:
            raise NothingToUndo("no bound has been moved")
        self.plan = self.earlier.pop()


def session(rows):
    """The answers to the lines of a string, one line for each."""
    desk, answers = Desk(), []
    for line in rows.split("\n"):
        answers.append(_answer_or_error(desk, line.split(" ")))
    return "\n".join(answers)


def _answer_or_error(desk, words):
    """The answer to a line, which is the name of the class for an error."""
    try:
        return _answer_to(desk, words)
    except InvalidPlan:
        return "InvalidPlan"
    except InvalidRow:
        return "InvalidRow"
    except InvalidTime:
        return "InvalidTime"
    except InvalidSide:
        return "InvalidSide"
    except InvalidText:
        return "InvalidText"
    except NothingToUndo:
        return "NothingToUndo"
    except NoRow:
        return "NoRow"


def _answer_to(desk, words):
    """The answer to the words of a line."""
    command, rest = words[0], words[1:]
    if "" in words:
        return UNKNOWN
    if command == "plan" and rest:
        desk.take(read_plan(" ".join(rest)))
        return DONE
    if desk.plan is None:
        return UNKNOWN
    if len(rest) == 0:
        return _answer_to_word(desk, command)
    if command in ("is", "swap"):
        return _answer_about_row(desk.plan, command, read_row(" ".join(rest)))
    return _answer_about_numbers(desk, command, rest)


def _answer_to_word(desk, command):
    """The answer to a line of one word."""
    plan = desk.plan
    if command == "best":
        return write_row(best_row(plan))
    if command == "latest":
        return write_row(latest_row(plan))
    if command == "entries":
        return write_row(best_entries(plan))
    if command == "tied":
        return write_row(tied_times(plan)) or "-"
    if command == "count":
        return str(count_best(plan))
    if command == "back":
        desk.back()
        return DONE
    return UNKNOWN


def _answer_about_row(plan, command, row):
    """The answer to a line that ends with the text of a row."""
    if command == "is":
        return "yes" if is_best(plan, row) else "no"
    swap = evening_swap(plan, row)
    return "none" if swap is None else f"{swap[0]} {swap[1]}"


def _answer_about_numbers(desk, command, rest):
    """The answer to a line with a rate, or with a time and a side."""
    first, last = number_of(rest[0]), number_of(rest[-1])
    if command == "excess" and len(rest) == 1 and first is not None:
        return str(excess(desk.plan, first))
    if command == "room" and len(rest) == 2 and first is not None:
        return str(room_of(desk.plan, first, rest[1]))
    if command == "move" and len(rest) == 3 and first is not None and last is not None:
        desk.move(first, rest[1], last)
        return DONE
    return UNKNOWN
