"""Tests of the errors: point 3 and the section on returnrows/errors.py."""

import inspect
import unittest

from returnrows import errors

NAMES = ["InvalidLetter", "InvalidRules", "InvalidNumber", "NotMixed", "TooMany", "NothingToUndo", "Unreadable"]


class Strange:
    """A value that cannot be compared, copied or shown."""

    def __eq__(self, other):
        raise AssertionError("compared")

    def __copy__(self):
        raise AssertionError("copied")

    def __deepcopy__(self, memo):
        raise AssertionError("copied")

    def __str__(self):
        raise AssertionError("shown")

    __repr__ = __str__


def all_classes():
    return [errors.RowError] + [getattr(errors, name) for name in NAMES]


class ErrorsTest(unittest.TestCase):
    def test_row_error_is_a_direct_subclass_of_value_error(self):
        self.assertEqual(errors.RowError.__bases__, (ValueError,))

    def test_every_other_class_is_a_direct_subclass_of_row_error_alone(self):
        for name in NAMES:
            with self.subTest(name=name):
                self.assertEqual(getattr(errors, name).__bases__, (errors.RowError,))
                self.assertEqual(getattr(errors, name).__name__, name)

    def test_no_other_class_is_a_subclass_of_another_one(self):
        for name in NAMES:
            for other in NAMES:
                if name != other:
                    with self.subTest(name=name, other=other):
                        self.assertFalse(issubclass(getattr(errors, name), getattr(errors, other)))

    def test_there_are_no_further_classes(self):
        found = [name for name, _ in inspect.getmembers(errors, inspect.isclass)]
        self.assertEqual(sorted(found), sorted(NAMES + ["RowError"]))

    def test_each_class_is_defined_in_errors(self):
        for error in all_classes():
            self.assertEqual(error.__module__, "returnrows.errors")

    def test_value_by_position(self):
        for error in all_classes():
            with self.subTest(error=error):
                self.assertEqual(error(7).value, 7)

    def test_value_by_name(self):
        for error in all_classes():
            with self.subTest(error=error):
                self.assertEqual(error(value=-7).value, -7)

    def test_value_is_stored_itself_whatever_it_is(self):
        for error in all_classes():
            for value in (None, 0, False, -10 ** 30, "", "a text", [], [[1], 2], (1, 2), {"a": []}, object(),
                          Strange()):
                with self.subTest(error=error):
                    self.assertIs(error(value).value, value)
                    self.assertIs(error(value=value).value, value)

    def test_one_argument_is_needed_and_no_more(self):
        for error in all_classes():
            with self.subTest(error=error):
                self.assertRaises(TypeError, error)
                self.assertRaises(TypeError, error, 1, 2)
                self.assertRaises(TypeError, lambda: error(number=1))

    def test_each_can_be_raised_and_caught_as_row_error_and_value_error(self):
        for error in all_classes():
            for above in (error, errors.RowError, ValueError):
                with self.subTest(error=error, above=above):
                    with self.assertRaises(above) as caught:
                        raise error(3)
                    self.assertIs(type(caught.exception), error)
                    self.assertEqual(caught.exception.value, 3)


if __name__ == "__main__":
    unittest.main()
