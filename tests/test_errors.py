"""[0.3] and the interface: the refusals, and how they stand under one another."""

import unittest

from beadrods import errors

NAMES = ["NoManner", "NoSetting", "NoNumber", "NoMove", "TooGreat", "Nothing", "NoText", "NoName"]


class Refusals(unittest.TestCase):
    def test_bead_error_is_a_value_error(self):
        self.assertTrue(issubclass(errors.BeadError, ValueError))

    def test_all_stand_under_bead_error(self):
        for name in NAMES:
            with self.subTest(name=name):
                self.assertTrue(issubclass(getattr(errors, name), errors.BeadError))
                self.assertIsNot(getattr(errors, name), errors.BeadError)

    def test_none_stands_under_another(self):
        for one in NAMES:
            for other in NAMES:
                if one != other:
                    with self.subTest(one=one, other=other):
                        self.assertFalse(issubclass(getattr(errors, one), getattr(errors, other)))

    def test_each_is_raised_with_words_and_without(self):
        for name in NAMES:
            with self.subTest(name=name), self.assertRaises(ValueError):
                raise getattr(errors, name)
            with self.subTest(name=name), self.assertRaises(errors.BeadError):
                raise getattr(errors, name)("words")


if __name__ == "__main__":
    unittest.main()
