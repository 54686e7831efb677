"""[3] and the interface: the classes of the refusals."""

import unittest

from twinwalk import errors

NAMES = ["NoProgram", "NoWorths", "NoPair", "TooMany", "NoPaper", "NoNode",
         "NoChange", "NoRow", "NoForm", "NoneYet", "NoPicks"]


class Refusals(unittest.TestCase):
    def test_twin_error_is_a_value_error(self):
        self.assertEqual(errors.TwinError.__bases__, (ValueError,))

    def test_each_class_stands_straight_under_twin_error(self):
        for name in NAMES:
            with self.subTest(name):
                self.assertEqual(getattr(errors, name).__bases__, (errors.TwinError,))

    def test_none_stands_under_another(self):
        for name in NAMES:
            for other in NAMES:
                with self.subTest(name + " " + other):
                    under = issubclass(getattr(errors, name), getattr(errors, other))
                    self.assertEqual(under, name == other)

    def test_each_may_be_raised_with_words_and_taken_as_a_value_error(self):
        for name in NAMES:
            with self.subTest(name), self.assertRaises(ValueError):
                raise getattr(errors, name)("words")


if __name__ == "__main__":
    unittest.main()
