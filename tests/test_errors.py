"""setsums/errors.py, and the names of all refusals."""

import unittest

from setsums import errors
from setsums.errors import (
    BadCount, BadName, BadNumber, BadOrder, BadSet, BadTable, NoCover, NothingDone, SetError, Unlike,
)

REFUSALS = (BadCount, BadSet, BadName, BadNumber, BadOrder, BadTable, Unlike, NoCover, NothingDone)


class ErrorsTest(unittest.TestCase):
    def test_a_refusal_is_a_value_error(self):
        self.assertEqual(SetError.__bases__, (ValueError,))

    def test_each_refusal_stands_straight_under_set_error(self):
        for refusal in REFUSALS:
            self.assertEqual(refusal.__bases__, (SetError,))

    def test_no_refusal_is_another_one(self):
        for refusal in REFUSALS:
            for other in REFUSALS:
                self.assertIs(issubclass(refusal, other), refusal is other)

    def test_each_refusal_has_its_own_name(self):
        names = ["BadCount", "BadSet", "BadName", "BadNumber", "BadOrder", "BadTable", "Unlike", "NoCover",
                 "NothingDone"]
        self.assertEqual([refusal.__name__ for refusal in REFUSALS], names)
        for name, refusal in zip(names, REFUSALS):
            self.assertIs(getattr(errors, name), refusal)

    def test_each_refusal_is_caught_by_each_of_its_names(self):
        for refusal in REFUSALS:
            for caught in (refusal, SetError, ValueError):
                with self.assertRaises(caught):
                    raise refusal("why")


if __name__ == "__main__":
    unittest.main()
