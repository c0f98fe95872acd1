"""Point 17: texts of rows and of plans."""

import unittest

from evenbits import texts
from evenbits.errors import InvalidText
from evenbits.plans import Plan
from evenbits.texts import read_plan, read_row, write_plan, write_row
from helpers import GREAT, Numbers, great_plan, lists_of, long_plans, many_times_plans, rowless_plans, small_plans

GOOD_NUMBERS = ("0", "7", "-7", "10", "-10", "99", str(GREAT), str(-GREAT), "1" + "0" * 29)
# No text of a number at all, and texts that are not the one of their number.
BAD_NUMBERS = ("", "-", "-0", "00", "01", "-01", "+1", "--1", "1-", "1_0", "_1", "1_", "1.0", "1e3", "0x1", "a", "1a",
               "one", "1,2", "- 1", "\n", "1\n", "\n1", "-\n1", "1:", ":1", ":", "1" * 31, "-" + "1" * 31,
               "1" + "0" * 30, "0" * 30 + "1", "1" * 5000, "(1)", "'1'", "None", "True")


def drawn_numbers(numbers, many):
    return [numbers.one_of((0, numbers.between(-9, 9), numbers.wide(-GREAT, GREAT), GREAT, -GREAT))
            for _ in range(many)]


class CheckedTest(unittest.TestCase):

    def check_place(self, call, text, place):
        with self.assertRaises(InvalidText, msg=text[:100]) as caught:
            call(text)
        self.assertEqual(caught.exception.place, place, msg=text[:100])


class RowTextTest(CheckedTest):

    def test_examples(self):
        self.assertEqual(write_row([3, 3, 3, 1]), "3 3 3 1")
        self.assertEqual(read_row("3 3 3 1"), [3, 3, 3, 1])
        self.assertEqual(write_row(row=[-5]), "-5")
        self.assertEqual(read_row(text="0 -10 0"), [0, -10, 0])

    def test_both_ways(self):
        numbers = Numbers(171)
        for many in list(range(1, 41)) + [100, 199, 200]:
            row = drawn_numbers(numbers, many)
            text = write_row(row)
            self.assertEqual(text.split(" "), [str(entry) for entry in row])
            self.assertEqual(read_row(text), row)
            self.assertEqual(write_row(read_row(text)), text)

    def test_each_number(self):
        for word in GOOD_NUMBERS:
            self.assertEqual(read_row(word), [int(word)])
            self.assertEqual(write_row([int(word)]), word)
            self.assertEqual(read_row(f"{word} 5 {word}"), [int(word), 5, int(word)])
        for word in BAD_NUMBERS:
            if " " not in word:
                self.check_place(read_row, word, 0)
                self.check_place(read_row, f"4 {word} 5", 1)
                self.check_place(read_row, f"4 5 6 {word}", 3)

    def test_blanks(self):
        for text, place in (("", 0), (" ", 0), (" 1", 0), ("1 ", 1), ("1  2", 1), ("1 2 ", 2), ("1 2  3", 2),
                            ("  1", 0), ("1 - 2", 1), ("- 1", 0), ("1\t2", 0), ("1\n2", 0), ("1 2\n", 1), ("\n", 0)):
            self.check_place(read_row, text, place)

    def test_the_first_wrong_word_decides(self):
        self.check_place(read_row, "1 2 x  y -0", 2)
        self.check_place(read_row, "1 01 x", 1)

    def test_two_hundred_and_one_words(self):
        self.assertEqual(read_row(" ".join(["0"] * 200)), [0] * 200)
        self.check_place(read_row, " ".join(["0"] * 201), 200)
        self.check_place(read_row, " ".join(["0"] * 250), 200)
        self.check_place(read_row, " ".join(["0"] * 200) + " ", 200)
        self.check_place(read_row, " ".join(["0"] * 200) + " x", 200)
        self.check_place(read_row, " ".join(["0"] * 199 + ["x", "0"]), 199)

    def test_plans_are_no_rows(self):
        self.check_place(read_row, "2:6:0:9 10:10:0:9", 0)
        self.check_place(read_row, "1 2 3:3", 2)


class PlanTextTest(CheckedTest):

    def test_examples(self):
        plan = Plan([2, 10], [6, 10], [0, 0], [9, 9])
        self.assertEqual(write_plan(plan), "2:6:0:9 10:10:0:9")
        self.assertEqual(read_plan("2:6:0:9 10:10:0:9"), plan)
        self.assertEqual(write_plan(plan=Plan([-7], [-7], [-8], [0])), "-7:-7:-8:0")
        self.assertEqual(read_plan(text="-7:-7:-8:0"), Plan([-7], [-7], [-8], [0]))

    def test_both_ways(self):
        plans = small_plans(172, 100) + rowless_plans() + many_times_plans()[::2] + long_plans()
        plans += [great_plan(173)[0], great_plan(174, 199)[0], great_plan(175, 1)[0]]
        for plan in plans:
            text = write_plan(plan)
            words = [":".join(str(bound) for bound in bounds) for bounds in zip(*lists_of(plan))]
            self.assertEqual(text, " ".join(words))
            self.assertEqual(lists_of(read_plan(text)), lists_of(plan))
            self.assertEqual(write_plan(read_plan(text)), text)

    def test_each_number(self):
        good = ["1", "3", "-2", "4"]
        for at in range(4):
            for word in BAD_NUMBERS:
                if " " not in word:
                    bent = ":".join(good[:at] + [word] + good[at + 1:])
                    self.check_place(read_plan, bent, 0)
                    self.check_place(read_plan, f"0:0:0:0 {bent} 7:7:7:7", 1)
        for low in GOOD_NUMBERS:
            self.assertEqual(read_plan(f"{low}:{low}:{low}:{low}"), Plan(*[[int(low)]] * 4))

    def test_words_bent_put_in_and_taken_out(self):
        numbers, last = Numbers(176), "40:40:0:9"
        for words in (["1:3:0:9", "2:9:-4:4", "-3:8:0:0", last], [last], ["1:1:1:1"] * 199 + [last]):
            for _ in range(12):
                at = numbers.between(0, len(words) - 1)
                for bent in ("", "1", "1:2", "1:2:3", "1:2:3:4:5", "x", "1:2:3:x", "1:2:3:", ":1:2:3", "2:1:0:0",
                             "0:0:2:1", "2:1:2:1", "1::2:3", "1:2:3;4", "1-2-3-4", words[at] + ":",
                             words[at].replace(":", " :", 1), "+" + words[at], words[at] + "\n", "1:2:03:4"):
                    if bent != words[at]:
                        self.check_place(read_plan, " ".join(words[:at] + [bent] + words[at + 1:]), at)
                for blank in (" ", "  ", " x "):
                    text = " ".join(words[:at]) + blank * (at > 0) + " ".join(words[at:])
                    if blank == " ":
                        self.assertEqual(write_plan(read_plan(text)), text)
                    elif at > 0:
                        self.check_place(read_plan, text, at)
            if len(words) > 1:
                self.check_place(read_plan, " ".join(words[:-1] + ["1:2:0:0"]), len(words))

    def test_bounds_the_wrong_way_round(self):
        self.check_place(read_plan, "6:2:0:9 10:10:0:9", 0)
        self.check_place(read_plan, "2:6:0:9 10:10:9:0", 1)
        self.check_place(read_plan, "2:6:0:9 11:10:0:9", 1)
        self.check_place(read_plan, f"2:6:0:9 {GREAT}:{-GREAT}:0:9 10:10:0:9", 1)

    def test_last_bounds_that_differ(self):
        self.check_place(read_plan, "2:6:0:9", 1)
        self.check_place(read_plan, "2:6:0:9 9:10:0:9", 2)
        self.check_place(read_plan, "10:10:0:9 2:6:0:9", 2)
        self.check_place(read_plan, "10:10:0:9 2:6:0:9 x", 2)
        self.check_place(read_plan, " ".join(["1:1:1:1"] * 150 + ["1:2:1:1"]), 151)

    def test_the_empty_string_and_blanks(self):
        for text, place in (("", 0), (" ", 0), ("\n", 0), (" 1:1:1:1", 0), ("1:1:1:1 ", 1), ("1:1:1:1\n", 0),
                            ("1:1:1:1  1:1:1:1", 1), ("1:1:1:1\n1:1:1:1", 0), ("1:1:1:1 1:1: 1:1", 1)):
            self.check_place(read_plan, text, place)

    def test_two_hundred_and_one_words(self):
        self.assertEqual(len(read_plan(" ".join(["1:1:1:1"] * 200))), 200)
        self.check_place(read_plan, " ".join(["1:1:1:1"] * 201), 200)
        self.check_place(read_plan, " ".join(["1:1:1:1"] * 200) + " ", 200)
        self.check_place(read_plan, " ".join(["1:1:1:1"] * 240 + ["x"]), 200)
        self.check_place(read_plan, " ".join(["1:1:1:1"] * 198 + ["x"] + ["1:1:1:1"] * 5), 198)

    def test_rows_are_no_plans(self):
        self.check_place(read_plan, "3 3 3 1", 0)
        self.check_place(read_plan, "1:1:1:1 5", 1)


class GeneralTest(CheckedTest):

    def test_arguments_stay_and_lists_are_new(self):
        row, plan = [3, 1], Plan([2, 10], [6, 10], [0, 0], [9, 9])
        write_row(row), write_plan(plan)
        self.assertEqual((row, lists_of(plan)), ([3, 1], ([2, 10], [6, 10], [0, 0], [9, 9])))
        told = read_row("3 1")
        told.append(None)
        self.assertEqual(read_row("3 1"), [3, 1])
        self.assertIsNot(read_plan("1:1:1:1"), read_plan("1:1:1:1"))

    def test_different_values_have_different_texts(self):
        plans = small_plans(177, 120)
        for one in plans:
            for two in plans[::9]:
                self.assertEqual(one == two, write_plan(one) == write_plan(two))

    def test_defined_in_the_file(self):
        for call in (write_row, read_row, write_plan, read_plan):
            self.assertEqual(call.__module__, "evenbits.texts")
            self.assertIs(getattr(texts, call.__name__), call)


if __name__ == "__main__":
    unittest.main()
