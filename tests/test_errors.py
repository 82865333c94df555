import unittest

from helper import KINDS
from shapeorders import errors


class Errors(unittest.TestCase):
    def test_order_error_stands_under_value_error(self):
        self.assertEqual(errors.OrderError.__bases__, (ValueError,))

    def test_the_seven_stand_under_order_error(self):
        for kind in KINDS:
            self.assertEqual(getattr(errors, kind).__bases__, (errors.OrderError,), kind)

    def test_no_two_are_one(self):
        self.assertEqual(len({getattr(errors, kind) for kind in KINDS}), 7)


if __name__ == "__main__":
    unittest.main()
