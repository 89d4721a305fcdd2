"""The refusals: which class stands straight under which."""

import unittest

from emptyhall import errors

REFUSALS = [errors.BadHouse, errors.NoWalk, errors.BadPaper, errors.NoText]


class ErrorClasses(unittest.TestCase):
    def test_hall_error_stands_straight_under_value_error(self):
        self.assertEqual(errors.HallError.__bases__, (ValueError,))

    def test_each_refusal_stands_straight_under_hall_error(self):
        for refusal in REFUSALS:
            with self.subTest(refusal=refusal.__name__):
                self.assertEqual(refusal.__bases__, (errors.HallError,))

    def test_no_refusal_is_beneath_another(self):
        for one in REFUSALS:
            for other in REFUSALS:
                with self.subTest(one=one.__name__, other=other.__name__):
                    self.assertEqual(issubclass(one, other), one.__name__ == other.__name__)

    def test_the_classes_bear_their_names(self):
        names = [refusal.__name__ for refusal in [errors.HallError] + REFUSALS]
        self.assertEqual(names, ["HallError", "BadHouse", "NoWalk", "BadPaper", "NoText"])


if __name__ == "__main__":
    unittest.main()
