import unittest

from riverdue import errors
from tests.helper import REFUSALS


class ErrorsTest(unittest.TestCase):
    def test_due_error_is_a_value_error(self):
        self.assertEqual(errors.DueError.__bases__, (ValueError,))

    def test_each_refusal_stands_straight_under_due_error(self):
        self.assertEqual(len(REFUSALS), 12)
        for name in REFUSALS:
            with self.subTest(name):
                self.assertEqual(getattr(errors, name).__bases__, (errors.DueError,))

    def test_each_refusal_is_none_of_the_others(self):
        for name in REFUSALS:
            error = getattr(errors, name)("refused")
            self.assertEqual([other for other in REFUSALS if isinstance(error, getattr(errors, other))], [name])
