"""The interface, errors.py: every refusal below GroundError, none below another."""

import unittest

from duelground import errors

REFUSALS = ("NoGround", "NoText", "NoPart", "NoMoves", "NoMark", "NoRoom", "NoWatcher")


class Errors(unittest.TestCase):
    def test_ground_error_is_a_value_error(self):
        self.assertEqual(errors.GroundError.__bases__, (ValueError,))

    def test_each_refusal_is_below_ground_error(self):
        for name in REFUSALS:
            with self.subTest(name):
                self.assertTrue(issubclass(getattr(errors, name), errors.GroundError))
                self.assertIsNot(getattr(errors, name), errors.GroundError)
                self.assertEqual(getattr(errors, name).__name__, name)

    def test_no_refusal_is_below_another(self):
        for name in REFUSALS:
            for other in REFUSALS:
                if name != other:
                    with self.subTest(f"{name} {other}"):
                        self.assertFalse(issubclass(getattr(errors, name), getattr(errors, other)))

    def test_each_is_raised_and_taken_by_its_name(self):
        for name in REFUSALS:
            with self.subTest(name):
                with self.assertRaises(getattr(errors, name)):
                    raise getattr(errors, name)("some words")


if __name__ == "__main__":
    unittest.main()
