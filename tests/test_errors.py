"""The error classes of the interface."""

import unittest

from foreverrows import errors

NAMES = [
    "NoGrid", "NoStep", "NoBack", "NoTable", "NoWhole", "NoBars", "TooMany", "NoWord",
    "NoReader", "NotOneWay", "NoMove", "Ring", "NoText", "NoRow",
]


class ErrorsTest(unittest.TestCase):

    def test_row_error_stands_straight_under_value_error(self):
        self.assertEqual((ValueError,), errors.RowError.__bases__)

    def test_all_fourteen_stand_straight_under_row_error(self):
        self.assertEqual(14, len(NAMES))
        for name in NAMES:
            with self.subTest(name=name):
                self.assertEqual((errors.RowError,), getattr(errors, name).__bases__)

    def test_none_stands_under_another_one(self):
        for name in NAMES:
            for other in NAMES:
                if name != other:
                    self.assertFalse(issubclass(getattr(errors, name), getattr(errors, other)))

    def test_each_is_a_class_of_its_own_name(self):
        for name in NAMES + ["RowError"]:
            self.assertEqual(name, getattr(errors, name).__name__)

    def test_each_is_raised_with_words(self):
        for name in NAMES:
            with self.assertRaises(errors.RowError) as caught:
                raise getattr(errors, name)("words")
            self.assertEqual("words", str(caught.exception))


if __name__ == "__main__":
    unittest.main()
