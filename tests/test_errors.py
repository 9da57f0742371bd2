import unittest

from faultwood import errors
from faultwood.errors import (
    BadLine, BadNumber, BadOdds, BadSets, BadText, BadTree, FaultError, Lacking, NoPlan, TooMany, Twice,
)
from things import own_names

OF_ONE_FIELD = ((BadText, "at"), (BadNumber, "row"))
OF_ROW_AND_NAME = (Lacking, Twice)
OF_A_TEXT = (TooMany, BadTree, BadOdds, BadSets, NoPlan, BadLine)
ALL = (BadText, BadNumber, *OF_ROW_AND_NAME, *OF_A_TEXT)


class Kinds(unittest.TestCase):
    def test_the_file_defines_each_of_them(self):
        told = {kind.__name__ for kind in ALL} | {"FaultError"}
        self.assertEqual(told & own_names(errors), told)

    def test_fault_error_is_straight_under_value_error(self):
        self.assertEqual(FaultError.__bases__, (ValueError,))

    def test_each_is_straight_under_fault_error(self):
        for kind in ALL:
            with self.subTest(kind=kind.__name__):
                self.assertEqual(kind.__bases__, (FaultError,))

    def test_none_is_under_another_one(self):
        for kind in ALL:
            for other in ALL:
                with self.subTest(kind=kind.__name__, other=other.__name__):
                    self.assertEqual(issubclass(kind, other), kind is other)


class Fields(unittest.TestCase):
    def test_one_field(self):
        for kind, field in OF_ONE_FIELD:
            for worth in (0, 7, 400, None):
                with self.subTest(kind=kind.__name__, worth=worth):
                    self.assertEqual(vars(kind(worth)), {field: worth})

    def test_row_ahead_of_name(self):
        for kind in OF_ROW_AND_NAME:
            with self.subTest(kind=kind.__name__):
                self.assertEqual(vars(kind(3, "pump")), {"row": 3, "name": "pump"})

    def test_each_object_has_fields_of_its_own(self):
        first = Lacking(3, "pump")
        second = Lacking(4, "belt")
        self.assertEqual((first.row, first.name), (3, "pump"))
        self.assertEqual((second.row, second.name), (4, "belt"))

    def test_fields_are_wanted_all_and_no_more(self):
        for kind, _ in OF_ONE_FIELD:
            with self.subTest(kind=kind.__name__):
                self.assertRaises(TypeError, kind)
                self.assertRaises(TypeError, kind, 1, 2)
        for kind in OF_ROW_AND_NAME:
            with self.subTest(kind=kind.__name__):
                self.assertRaises(TypeError, kind, 1)
                self.assertRaises(TypeError, kind, 1, "a", 2)

    def test_made_of_a_text(self):
        for kind in (FaultError, *OF_A_TEXT):
            for text in ("no tree", ""):
                with self.subTest(kind=kind.__name__, text=text):
                    self.assertEqual(str(kind(text)), text)


class Raised(unittest.TestCase):
    def made(self):
        return (
            BadText(1), BadNumber(2), Lacking(3, "a"), Twice(4, "b"), *(kind("text") for kind in OF_A_TEXT)
        )

    def test_caught_as_any_refusal_and_as_value_error(self):
        for error in self.made():
            for caught in (type(error), FaultError, ValueError):
                with self.subTest(error=repr(error), caught=caught.__name__):
                    with self.assertRaises(caught) as seen:
                        raise error
                    self.assertIs(seen.exception, error)


if __name__ == "__main__":
    unittest.main()
