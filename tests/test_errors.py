import unittest

from bendproof import errors
from helping import REFUSALS


class Errors(unittest.TestCase):
    def test_any_refusal_stands_under_value_error(self):
        self.assertEqual(errors.BendError.__bases__, (ValueError,))

    def test_there_are_six_refusals(self):
        for name in ("NoRatio", "NoText", "NoBox", "NoNet", "Unlike", "NoLine"):
            self.assertEqual(getattr(errors, name).__name__, name)
        self.assertEqual(len(set(REFUSALS)), 6)

    def test_each_refusal_stands_straight_under_bend_error(self):
        for refusal in REFUSALS:
            self.assertEqual(refusal.__bases__, (errors.BendError,))

    def test_no_refusal_stands_under_another(self):
        for one in REFUSALS:
            for other in REFUSALS:
                self.assertEqual(issubclass(one, other), one is other)

    def test_a_refusal_can_be_taken_by_each_of_its_names(self):
        for refusal in REFUSALS:
            for name in (refusal, errors.BendError, ValueError):
                with self.assertRaises(name):
                    raise refusal("words")


if __name__ == "__main__":
    unittest.main()
