import unittest

from roundsum import errors


class Errors(unittest.TestCase):
    def test_round_error_is_a_value_error(self):
        self.assertEqual(errors.RoundError.__bases__, (ValueError,))

    def test_each_refusal_stands_straight_under_it(self):
        for name in ("NoShape", "NoPoints", "NoNumber", "TooLong", "NoNote"):
            with self.subTest(name=name):
                self.assertEqual(getattr(errors, name).__bases__, (errors.RoundError,))
