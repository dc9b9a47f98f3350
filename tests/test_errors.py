import unittest

from slantwalk import errors
from slantwalk.errors import (
    InvalidDirection, InvalidPlan, InvalidQuestion, InvalidRoom, NotInTree, SlantError, TooManyPairs, UnlikeSizes,
)


class TestErrorClasses(unittest.TestCase):
    def test_each_class_has_exactly_the_base_of_the_interface(self):
        self.assertEqual(SlantError.__bases__, (ValueError,))
        for error in (InvalidPlan, InvalidRoom, InvalidDirection, UnlikeSizes, InvalidQuestion, TooManyPairs):
            self.assertEqual(error.__bases__, (SlantError,), error)
        self.assertEqual(NotInTree.__bases__, (InvalidDirection,))

    def test_the_classes_are_defined_in_the_file(self):
        names = ("SlantError", "InvalidPlan", "InvalidRoom", "InvalidDirection", "NotInTree", "UnlikeSizes",
                 "InvalidQuestion", "TooManyPairs")
        for name in names:
            self.assertEqual(getattr(errors, name).__module__, "slantwalk.errors")

    def test_attributes(self):
        self.assertEqual(InvalidRoom(7).room, 7)
        error = InvalidDirection(4, 2)
        self.assertEqual((error.p, error.q), (4, 2))
        error = NotInTree(1, 0)
        self.assertEqual((error.p, error.q), (1, 0))
        error = UnlikeSizes(3, 5)
        self.assertEqual((error.first, error.second), (3, 5))
        self.assertEqual(InvalidQuestion(10).at, 10)
        self.assertEqual(TooManyPairs(0).limit, 0)

    def test_numbers_that_python_does_not_write_out(self):
        for number in (10 ** 6000, -(10 ** 6000)):
            self.assertEqual(InvalidRoom(number).room, number)
            error = InvalidDirection(number, number)
            self.assertEqual((error.p, error.q), (number, number))
            self.assertEqual(TooManyPairs(number).limit, number)
            self.assertEqual(UnlikeSizes(number, 1).first, number)
            self.assertEqual(InvalidQuestion(number).at, number)

    def test_messages_are_strings(self):
        for error in (InvalidPlan("why"), InvalidRoom(1), InvalidDirection(2, 2), NotInTree(0, 1),
                      UnlikeSizes(1, 2), InvalidQuestion(3), TooManyPairs(4)):
            self.assertIsInstance(str(error), str)
            self.assertIsInstance(error, SlantError)
            self.assertIsInstance(error, ValueError)


if __name__ == "__main__":
    unittest.main()
