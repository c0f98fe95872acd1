"""Point 5: the classes of errors."""

import unittest

from evenbits import errors
from evenbits.errors import (
    EvenError, InvalidIndex, InvalidNeeds, InvalidNumber, InvalidPlan, InvalidPrice, InvalidRow, InvalidSide,
    InvalidStreams, InvalidText, InvalidTime, NoRow, NothingToUndo)

WITH_STRING = [InvalidPlan, InvalidRow, InvalidTime, InvalidSide, InvalidNumber, InvalidPrice, InvalidNeeds,
               InvalidStreams, InvalidIndex, NothingToUndo]
ALL = WITH_STRING + [NoRow, InvalidText]


class ErrorsTest(unittest.TestCase):

    def test_base_is_a_value_error(self):
        self.assertEqual(EvenError.__bases__, (ValueError,))
        self.assertIsInstance(EvenError("why"), ValueError)

    def test_each_class_is_a_direct_subclass(self):
        for kind in ALL:
            with self.subTest(kind=kind.__name__):
                self.assertEqual(kind.__bases__, (EvenError,))

    def test_none_is_a_subclass_of_another_one(self):
        for kind in ALL:
            for other in ALL:
                self.assertEqual(issubclass(kind, other), kind is other)

    def test_names_are_defined_in_the_file(self):
        for kind in ALL + [EvenError]:
            self.assertIs(getattr(errors, kind.__name__), kind)
            self.assertEqual(kind.__module__, "evenbits.errors")

    def test_made_with_one_string(self):
        for kind in WITH_STRING:
            with self.subTest(kind=kind.__name__):
                error = kind("what is wrong")
                self.assertEqual(str(error), "what is wrong")
                with self.assertRaises(EvenError):
                    raise error

    def test_no_row_by_position(self):
        error = NoRow(3, 17)
        self.assertEqual((error.first, error.last), (3, 17))

    def test_no_row_by_name(self):
        error = NoRow(last=17, first=3)
        self.assertEqual((error.first, error.last), (3, 17))
        error = NoRow(4, last=4)
        self.assertEqual((error.first, error.last), (4, 4))

    def test_no_row_needs_both(self):
        for arguments in ((), (1,), (1, 2, 3)):
            with self.assertRaises(TypeError):
                NoRow(*arguments)

    def test_invalid_text_by_position_and_by_name(self):
        self.assertEqual(InvalidText(0).place, 0)
        self.assertEqual(InvalidText(place=200).place, 200)

    def test_invalid_text_needs_its_place(self):
        for arguments in ((), (1, 2)):
            with self.assertRaises(TypeError):
                InvalidText(*arguments)

    def test_equal_arguments_give_equal_messages(self):
        self.assertEqual(str(NoRow(1, 2)), str(NoRow(last=2, first=1)))
        self.assertEqual(str(InvalidText(7)), str(InvalidText(place=7)))

    def test_caught_by_the_name_of_the_base(self):
        for error in (NoRow(0, 1), InvalidText(3)):
            with self.assertRaises(EvenError) as caught:
                raise error
            self.assertIs(caught.exception, error)


if __name__ == "__main__":
    unittest.main()
