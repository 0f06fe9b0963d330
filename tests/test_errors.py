"""The refusals: their names, and which stands under which."""

import unittest

from stakebodies import errors

NAMES = ["Flat", "NoPoints", "NoAxis", "NoMove", "NoText", "NoName", "NoRow", "TooGreat"]


class Refusals(unittest.TestCase):
    def test_any_refusal_is_a_value_error(self):
        self.assertTrue(issubclass(errors.BodyError, ValueError))
        self.assertEqual(errors.BodyError.__bases__, (ValueError,))

    def test_each_is_a_body_error(self):
        for name in NAMES:
            with self.subTest(name):
                refusal = getattr(errors, name)
                self.assertEqual(refusal.__name__, name)
                self.assertTrue(issubclass(refusal, errors.BodyError))
                self.assertTrue(issubclass(refusal, ValueError))
                self.assertIsNot(refusal, errors.BodyError)

    def test_none_stands_under_another_one(self):
        for name in NAMES:
            for other in NAMES:
                if name != other:
                    with self.subTest(name=name, other=other):
                        self.assertFalse(issubclass(getattr(errors, name), getattr(errors, other)))

    def test_each_can_be_raised_and_taken_by_either_name(self):
        for name in NAMES:
            refusal = getattr(errors, name)
            for caught in (refusal, errors.BodyError, ValueError):
                with self.subTest(name=name, caught=caught.__name__):
                    with self.assertRaises(caught):
                        raise refusal("refused")


if __name__ == "__main__":
    unittest.main()
