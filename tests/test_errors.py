"""0.5: the errors of the program."""

import unittest

from automatics import errors

NAMES = (
    "BadAutomaton BadWord TooMany BadText BadSequence NotSteady BadMorphism OtherBase BadValues Captured TooGreat "
    "BadFormula TooWide BadLinear Endless").split()


class Errors(unittest.TestCase):

    def test_base_class(self):
        self.assertEqual(errors.AutomaticError.__bases__, (ValueError,))

    def test_each_is_an_automatic_error_and_no_other(self):
        for name in NAMES:
            with self.subTest(name):
                self.assertEqual(getattr(errors, name).__bases__, (errors.AutomaticError,))
                self.assertTrue(issubclass(getattr(errors, name), ValueError))

    def test_there_are_no_others(self):
        classes = {name for name, value in vars(errors).items() if isinstance(value, type)}
        self.assertEqual(classes, {"AutomaticError", *NAMES})

    def test_attributes(self):
        self.assertEqual(errors.BadText(3).line, 3)
        self.assertEqual(errors.BadFormula(4).at, 4)
        self.assertIsInstance(str(errors.BadText(3)), str)
        self.assertIsInstance(str(errors.BadFormula(3)), str)


if __name__ == "__main__":
    unittest.main()
