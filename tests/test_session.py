"""Point 18: sessions."""

import re
import unittest

from evenbits import session as session_file
from evenbits.best import best_entries, best_row, latest_row, tied_times
from evenbits.bounds import moved_bound, room_of
from evenbits.counts import count_best
from evenbits.errors import EvenError, NothingToUndo
from evenbits.judges import evening_swap, is_best
from evenbits.plans import Plan
from evenbits.prices import excess
from evenbits.rows import emptiest, fullest, has_row
from evenbits.session import session
from evenbits.texts import read_plan, read_row, write_plan, write_row
from helpers import GREAT, Numbers, few_times_plans, lists_of, made_plan, rowless_plans, small_plans

NUMBER = re.compile(r"0|-?[1-9][0-9]{0,29}")
# Plans of 1, 2, 3 and 4 times; the second one has no row.
PLANS = ("5:5:0:9", "0:9:0:2 8:8:0:3", "0:6:0:9 3:6:0:9 6:6:0:9", "0:9:0:9 5:9:0:9 0:9:0:9 8:8:0:9")
# Words that are no texts of numbers.
NO_NUMBERS = ("+1", "01", "-0", "1_0", "1.0", "x", "--1", "-", "1" * 31, "00", "1e2", "-01", "1-", "(1)")


def told_numbers(numbers):
    return " ".join(str(number) for number in numbers) or "-"


class Told:
    """What the lines answer, by the words of the point; the plan is made anew from its bounds for each line."""

    def __init__(self):
        self.bounds = []

    def plan(self):
        return Plan(*self.bounds[-1])

    def answer(self, line):
        words = line.split(" ")
        if "" in words:
            return "?"
        try:
            if words[0] == "plan" and len(words) > 1:
                self.bounds = [lists_of(read_plan(line[5:]))]
                return "ok"
            return self.answer_for_plan(words, line) if self.bounds else "?"
        except EvenError as error:
            return type(error).__name__

    def answer_for_plan(self, words, line):
        command, numbers = words[0], [bool(NUMBER.fullmatch(word)) for word in words]
        shape = (command, len(words))
        simple = {"best": best_row, "latest": latest_row, "entries": best_entries, "tied": tied_times,
                  "count": lambda plan: [count_best(plan)]}
        if len(words) == 1 and command in simple:
            return told_numbers(simple[command](self.plan()))
        if command == "is" and len(words) > 1:
            row = read_row(line[3:])
            return "yes" if is_best(self.plan(), row) else "no"
        if command == "swap" and len(words) > 1:
            row = read_row(line[5:])
            swap = evening_swap(self.plan(), row)
            return told_numbers(swap) if swap else "none"
        if shape == ("excess", 2) and numbers[1]:
            return str(excess(self.plan(), int(words[1])))
        if shape == ("room", 3) and numbers[1]:
            return str(room_of(self.plan(), int(words[1]), words[2]))
        if shape == ("move", 4) and numbers[1] and numbers[3]:
            self.bounds.append(lists_of(moved_bound(self.plan(), int(words[1]), words[2], int(words[3]))))
            return "ok"
        if line == "back":
            if len(self.bounds) == 1:
                raise NothingToUndo("nothing")
            self.bounds.pop()
            return "ok"
        return "?"


def told_session(lines):
    told = Told()
    return "\n".join(told.answer(line) for line in lines)


def drawn_line(numbers, plans):
    """A line of any kind, about half of them right ones."""
    row = write_row(numbers.listed(numbers.between(1, 5), -1, 5))
    time = numbers.one_of(("1", "2", "3", "0", "4", "-1", "9", str(GREAT)))
    side = numbers.one_of(("low", "high", "low", "high", "mid", "LOW", "end", "1"))
    number = numbers.one_of(("0", "1", "-1", "2", "-3", "7", str(GREAT), str(-GREAT)))
    wrong = numbers.one_of(NO_NUMBERS)
    right = ["best", "latest", "entries", "tied", "count", "back", f"is {row}", f"swap {row}", f"excess {number}",
             f"room {time} {side}", f"move {time} {side} {number}", f"move {time} {side} {number}", "back",
             f"plan {numbers.one_of(plans)}", f"room 1 {side}", f"move 1 {side} {number}"]
    others = [f"excess {wrong}", f"room {wrong} {side}", f"room {wrong} low", f"move {wrong} low 1", "", " ",
              f"move 1 {side} {wrong}", f"is {wrong}", f"swap 1 {wrong}", f"plan {wrong}", "plan 5:4:0:9", "plan",
              f"plan {numbers.one_of(plans)} 1:2:0:9", f"plan  {numbers.one_of(plans)}", "best ", " best", "best best",
              "is", "swap", "excess", "room", "room 1", "move 1 low", "back 1", "count 1", "tied -", "entries 0",
              "excess 1 2", "room 1 low 1", "move 1 low 1 1", "Best", "BACK", "undo", "is  1", "is 1 ", "swap 1  2",
              "excess  1", "excess 1 ", "room  1 low", "move 1  low 1", "back ", "?", "ok", "-", "best,", "1", "\t"]
    return numbers.one_of(right) if numbers.between(0, 9) < 6 else numbers.one_of(others)


class ExamplesTest(unittest.TestCase):

    def check(self, *pairs):
        """Pairs of a line and its answer."""
        self.assertEqual(session("\n".join(line for line, _ in pairs)), "\n".join(answer for _, answer in pairs))

    def test_every_kind_of_line(self):
        self.check(
            ("plan 0:9:0:9 5:9:0:9 0:9:0:9 8:8:0:9", "ok"), ("best", "3 2 2 1"), ("latest", "2 3 1 2"),
            ("entries", "1 2 2 3"), ("tied", "2"), ("count", "4"), ("is 3 2 2 1", "yes"), ("is 5 1 1 1", "no"),
            ("swap 5 1 1 1", "1 2"), ("swap 3 2 2 1", "none"), ("excess 2", "1"), ("excess -1", "12"),
            ("room 2 high", "4"), ("room 2 low", "0"), ("move 2 low 1", "ok"), ("best", "3 3 1 1"),
            ("back", "ok"), ("best", "3 2 2 1"))

    def test_no_numbers_are_told_by_a_sign(self):
        self.check(("plan 5:5:0:9", "ok"), ("tied", "-"), ("entries", "5"), ("plan 0:3:0:9 2:2:0:9", "ok"),
                   ("tied", "1"), ("plan 0:3:0:9 3:3:0:9", "ok"), ("tied", "-"), ("count", "2"))

    def test_by_name(self):
        self.assertEqual(session(rows="plan 5:5:0:9\nbest"), "ok\n5")

    def test_the_empty_string_and_empty_lines(self):
        self.assertEqual(session(""), "?")
        self.assertEqual(session("\n"), "?\n?")
        self.assertEqual(session("plan 5:5:0:9\n"), "ok\n?")
        self.assertEqual(session("\nplan 5:5:0:9\n\nbest\n\n"), "?\nok\n?\n5\n?\n?")
        self.assertEqual(session(" "), "?")

    def test_lines_before_there_is_a_plan(self):
        self.check(("best", "?"), ("latest", "?"), ("entries", "?"), ("tied", "?"), ("count", "?"), ("is 5", "?"),
                   ("is x", "?"), ("swap 5", "?"), ("excess 1", "?"), ("room 1 low", "?"), ("move 1 low 1", "?"),
                   ("back", "?"), ("plan", "?"), ("plan x", "InvalidText"), ("best", "?"), ("back", "?"),
                   ("plan 5:4:0:9", "InvalidText"), ("plan  5:5:0:9", "?"), ("plan 5:5:0:9", "ok"), ("best", "5"),
                   ("back", "NothingToUndo"))

    def test_errors(self):
        self.check(
            ("plan 0:6:0:9 3:6:0:9 6:6:0:9", "ok"), ("is x", "InvalidText"), ("is 2 2 -0", "InvalidText"),
            ("is 2 2", "InvalidRow"), ("is 2 2 3", "InvalidRow"), ("swap 01", "InvalidText"), ("swap 6", "InvalidRow"),
            ("swap -1 4 3", "InvalidRow"), ("room 0 low", "InvalidTime"), ("room 3 low", "InvalidTime"),
            ("room -1 high", "InvalidTime"), ("room 1 end", "InvalidSide"), ("room 9 end", "InvalidTime"),
            ("move 0 low 1", "InvalidTime"), ("move 1 LOW 1", "InvalidSide"), ("move 3 LOW 1", "InvalidTime"),
            ("move 1 low 7", "InvalidPlan"), ("move 1 high -7", "InvalidPlan"), ("move 1 low 6", "ok"),
            ("plan 1:2:0:9", "InvalidText"), ("plan 2:1:0:9 1:1:0:9", "InvalidText"), ("best", "6 0 0"),
            ("back", "ok"), ("back", "NothingToUndo"), ("best", "2 2 2"))

    def test_plans_without_rows(self):
        self.check(
            ("plan 0:9:0:2 8:8:0:3", "ok"), ("best", "NoRow"), ("latest", "NoRow"), ("entries", "NoRow"),
            ("tied", "NoRow"), ("count", "NoRow"), ("is 2 3", "NoRow"), ("is x", "InvalidText"), ("swap 2", "NoRow"),
            ("swap x", "InvalidText"), ("excess 3", "NoRow"), ("room 1 low", "NoRow"), ("room 1 end", "InvalidSide"),
            ("room 2 low", "InvalidTime"), ("move 1 low 3", "ok"), ("best", "NoRow"), ("move 1 low 9", "InvalidPlan"),
            ("back", "ok"), ("back", "NothingToUndo"), ("best now", "?"))

    def test_moves_to_a_plan_without_rows_and_back(self):
        self.check(("plan 0:6:0:4 6:6:0:4", "ok"), ("best", "3 3"), ("move 1 low 5", "ok"), ("best", "NoRow"),
                   ("move 1 low -4", "ok"), ("best", "3 3"), ("room 1 low", "2"), ("back", "ok"), ("best", "NoRow"),
                   ("back", "ok"), ("room 1 low", "3"), ("back", "NothingToUndo"))

    def test_back_over_several_moves(self):
        self.check(
            ("plan 0:9:0:9 9:9:0:9", "ok"), ("best", "5 4"), ("move 1 low 6", "ok"), ("best", "6 3"),
            ("move 1 low 2", "ok"), ("best", "8 1"), ("move 1 high -1", "ok"), ("back", "ok"), ("best", "8 1"),
            ("back", "ok"), ("best", "6 3"), ("move 1 high -3", "ok"), ("best", "6 3"), ("room 1 low", "0"),
            ("back", "ok"), ("back", "ok"), ("best", "5 4"), ("back", "NothingToUndo"), ("best", "5 4"))

    def test_a_plan_line_forgets_the_moves(self):
        self.check(("plan 0:9:0:9 9:9:0:9", "ok"), ("move 1 low 6", "ok"), ("plan 0:9:0:9 9:9:0:9", "ok"),
                   ("back", "NothingToUndo"), ("best", "5 4"), ("move 1 low 6", "ok"), ("plan x", "InvalidText"),
                   ("plan ", "?"), ("best", "6 3"), ("back", "ok"), ("best", "5 4"))

    def test_invalid_lines_between_a_move_and_a_back_line(self):
        lines = ["", " ", "move", "move 1", "move 1 low", "move 1 low +1", "move 01 low 1", "move 1 low 1 1", "back ",
                 "move  1 low 1", "move 1 low 4", "move 1 mid 1", "move 0 low 1", "plan 9:8:0:9", "plan", "is 1 1 1",
                 "back 1", "plan 5:5:0:9 ", "Back", f"move 1 low 1{'0' * 30}", "room 1 low_", "move 1 low 1_0"]
        answers = ["?"] * 10 + ["InvalidPlan", "InvalidSide", "InvalidTime", "InvalidText", "?", "InvalidRow"]
        answers += ["?"] * 4 + ["InvalidSide", "?"]
        self.check(("plan 0:9:0:9 9:9:0:9", "ok"), ("move 1 low 6", "ok"), *zip(lines, answers), ("best", "6 3"),
                   ("back", "ok"), ("best", "5 4"), ("back", "NothingToUndo"))

    def test_numbers_that_are_not_written_as_in_texts(self):
        self.check(("plan 0:9:0:9 9:9:0:9", "ok"))
        for word in NO_NUMBERS:
            self.check(("plan 0:9:0:9 9:9:0:9", "ok"), (f"excess {word}", "?"), (f"room {word} low", "?"),
                       (f"room {word} mid", "?"), (f"move {word} low 1", "?"), (f"move 1 low {word}", "?"),
                       (f"move 9 low {word}", "?"), (f"is {word}", "InvalidText"), (f"swap 4 {word}", "InvalidText"),
                       (f"plan {word}", "InvalidText"), ("best", "5 4"), ("back", "NothingToUndo"))

    def test_great_numbers(self):
        low = -GREAT
        self.check((f"plan {low}:{GREAT}:{low}:{GREAT} {GREAT}:{GREAT}:{low}:{GREAT}", "ok"),
                   ("best", f"{(GREAT + 1) // 2} {GREAT // 2}"), ("excess 0", str(GREAT)),
                   (f"excess {low}", str(3 * GREAT)), ("room 1 low", str(GREAT + GREAT // 2)),
                   (f"move 1 low {GREAT}", "ok"), (f"move 1 low {GREAT}", "ok"), ("best", f"{GREAT} 0"),
                   (f"move 1 low {GREAT}", "InvalidPlan"))


class SessionTest(unittest.TestCase):

    def test_drawn_sessions(self):
        numbers = Numbers(181)
        plans = list(PLANS) + [write_plan(plan) for plan in small_plans(182, 30) if len(plan) < 5]
        for number in range(260):
            lines = [drawn_line(numbers, plans) for _ in range(numbers.between(0, 14))]
            if number % 5:
                lines = [f"plan {numbers.one_of(plans)}"] + lines
            self.assertEqual(session("\n".join(lines)), told_session(lines) if lines else "?")

    def test_a_hundred_lines(self):
        numbers = Numbers(183)
        for _ in range(12):
            lines = [f"plan {numbers.one_of(PLANS)}"] + [drawn_line(numbers, PLANS) for _ in range(99)]
            told = session("\n".join(lines))
            self.assertEqual(told, told_session(lines))
            self.assertEqual(len(told.split("\n")), 100)

    def test_rows_of_the_plan(self):
        for plan in few_times_plans()[::6] + [made_plan(Numbers(184), 40, 10 ** 24, 10 ** 25, 10 ** 24)]:
            lines = [f"plan {write_plan(plan)}", "best", "latest", "entries", "tied", "count"]
            for row in (fullest(plan), emptiest(plan), best_row(plan), latest_row(plan)):
                lines += [f"is {write_row(row)}", f"swap {write_row(row)}"]
            for number in (plan.total, -3, 0, 2, max(plan.most)):
                lines += [f"excess {number}", f"room {number} low", f"room {len(plan) - 1} high"]
                lines += [f"move {len(plan) // 2} high {number}", f"move 1 low {number}"]
            told = session("\n".join(lines))
            self.assertEqual(told, told_session(lines))
            self.assertIn("yes", told)

    def test_a_line_that_answers_an_error_changes_nothing(self):
        numbers = Numbers(185)
        tried = 0
        for _ in range(150):
            lines = [f"plan {numbers.one_of(PLANS)}"] + [drawn_line(numbers, PLANS) for _ in range(12)]
            answers = session("\n".join(lines)).split("\n")
            kept = [(line, answer) for line, answer in zip(lines, answers)
                    if answer != "?" and not re.fullmatch("Invalid.*|No.*", answer)]
            tried += len(lines) - len(kept)
            self.assertEqual(session("\n".join(line for line, _ in kept)), "\n".join(answer for _, answer in kept))
        self.assertGreater(tried, 300)

    def test_plans_without_rows(self):
        for plan in rowless_plans():
            self.assertFalse(has_row(plan))
            lines = [f"plan {write_plan(plan)}", "best", "latest", "entries", "tied", "count", "is 1", "swap 1",
                     "excess 0", "room 1 low", "best", "back"]
            told = ["ok"] + ["NoRow"] * 8 + ["NoRow" if len(plan) > 1 else "InvalidTime", "NoRow", "NothingToUndo"]
            self.assertEqual(session("\n".join(lines)), "\n".join(told))

    def test_sessions_do_not_know_each_other(self):
        self.assertEqual(session("plan 5:5:0:9\nbest"), "ok\n5")
        self.assertEqual(session("best\nback"), "?\n?")

    def test_one_string(self):
        self.assertIsInstance(session("plan 5:5:0:9\nbest"), str)

    def test_defined_in_the_file(self):
        self.assertEqual(session.__module__, "evenbits.session")
        self.assertIs(session_file.session, session)


if __name__ == "__main__":
    unittest.main()
