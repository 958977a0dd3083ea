"""The refusals: MartError, and each other class under it alone."""

import inspect
import unittest

from wishmart import errors

NAMES = ["NoNumber", "NoMarket", "NoPrices", "Dear", "Unwished", "NoBuyer",
         "NoGood", "Nothing", "NoDealing", "NoText", "NoRow"]


class ErrorsTest(unittest.TestCase):
    def test_mart_error_is_under_value_error(self):
        self.assertEqual(errors.MartError.__bases__, (ValueError,))

    def test_each_other_class_is_under_mart_error_alone(self):
        for name in NAMES:
            with self.subTest(name=name):
                self.assertEqual(getattr(errors, name).__bases__, (errors.MartError,))

    def test_no_class_is_under_another_one(self):
        for name in NAMES:
            for other in NAMES:
                if name != other:
                    self.assertFalse(issubclass(getattr(errors, name), getattr(errors, other)), (name, other))

    def test_each_name_is_a_class_of_its_own(self):
        self.assertEqual([getattr(errors, name).__name__ for name in NAMES], NAMES)

    def test_there_are_no_others(self):
        defined = [name for name, each in vars(errors).items() if inspect.isclass(each)]
        self.assertEqual(sorted(defined), sorted(NAMES + ["MartError"]))

    def test_each_is_raised_and_caught_as_mart_error(self):
        for name in NAMES:
            with self.subTest(name=name), self.assertRaises(errors.MartError):
                raise getattr(errors, name)("why")


if __name__ == "__main__":
    unittest.main()
