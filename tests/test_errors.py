import unittest

from sumlaw import errors

NAMES = ["NoText", "TooLong", "TooGreat", "NoValue", "NoPick", "NoLine", "Known", "Unknown"]


class Refusals(unittest.TestCase):
    def test_all_stand_under_sum_error_and_value_error(self):
        self.assertEqual(errors.SumError.__bases__, (ValueError,))
        for name in NAMES:
            self.assertTrue(issubclass(getattr(errors, name), errors.SumError), name)

    def test_none_stands_under_another(self):
        for name in NAMES:
            for other in NAMES:
                if name != other:
                    self.assertFalse(issubclass(getattr(errors, name), getattr(errors, other)), (name, other))

    def test_each_is_taken_as_sum_error_and_as_value_error(self):
        for name in NAMES:
            for above in (errors.SumError, ValueError):
                with self.assertRaises(above):
                    raise getattr(errors, name)("words")


if __name__ == "__main__":
    unittest.main()
