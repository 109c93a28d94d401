"""The errors of the interface."""

import unittest

from dialrow import errors


class ErrorsTest(unittest.TestCase):
    def test_dial_error_is_straight_under_value_error(self):
        self.assertEqual(errors.DialError.__bases__, (ValueError,))

    def test_the_others_are_straight_under_dial_error(self):
        for name in ("BadSize", "BadRow", "BadDeeds", "Unlike"):
            with self.subTest(name=name):
                self.assertEqual(getattr(errors, name).__bases__, (errors.DialError,))

    def test_each_is_defined_in_its_file_under_its_name(self):
        for name in ("DialError", "BadSize", "BadRow", "BadDeeds", "Unlike"):
            with self.subTest(name=name):
                self.assertEqual(getattr(errors, name).__module__, "dialrow.errors")
                self.assertEqual(getattr(errors, name).__name__, name)


if __name__ == "__main__":
    unittest.main()
