"""The nine errors, their base class and their fields."""

import unittest

from fourtowns import errors

PLAIN = ("BadRule", "BadClub", "BadNumber", "BreaksRule", "NoClub", "NoStep", "BadText")


class ErrorsTest(unittest.TestCase):
    def test_base_class(self):
        self.assertEqual(errors.TownError.__bases__, (ValueError,))

    def test_each_is_a_direct_subclass_defined_here(self):
        for name in PLAIN + ("BadTown", "BadLine"):
            error = getattr(errors, name)
            self.assertEqual(error.__bases__, (errors.TownError,), name)
            self.assertEqual(error.__module__, "fourtowns.errors")
            self.assertEqual(error.__name__, name)

    def test_no_others(self):
        found = sorted(name for name, value in vars(errors).items() if isinstance(value, type))
        self.assertEqual(found, sorted(PLAIN + ("BadTown", "BadLine", "TownError")))

    def test_plain_errors_are_raised_with_and_without_a_message(self):
        for name in PLAIN:
            error = getattr(errors, name)
            with self.assertRaises(errors.TownError):
                raise error()
            with self.assertRaises(error):
                raise error("a message")

    def test_fields_by_position(self):
        self.assertEqual(errors.BadTown("clubs").part, "clubs")
        wrong = errors.BadLine(2, 3)
        self.assertEqual((wrong.line, wrong.word), (2, 3))

    def test_fields_by_name(self):
        self.assertEqual(errors.BadTown(part="whole").part, "whole")
        wrong = errors.BadLine(word=5, line=4)
        self.assertEqual((wrong.line, wrong.word), (4, 5))


if __name__ == "__main__":
    unittest.main()
