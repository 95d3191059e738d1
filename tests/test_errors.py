"""Tests of scarp.errors."""

import unittest

from scarp import errors


class ErrorsTest(unittest.TestCase):
    def test_base(self):
        self.assertEqual(errors.ScarpError.__bases__, (ValueError,))
        for name in ("NotAllowed", "TooLarge", "Missing", "BadPaper", "BadForm", "Broken"):
            self.assertEqual(getattr(errors, name).__bases__, (errors.ScarpError,))

    def test_plain_errors(self):
        for kind in (errors.NotAllowed, errors.TooLarge, errors.Missing, errors.BadPaper):
            with self.assertRaises(kind):
                raise kind("why")

    def test_bad_form(self):
        self.assertEqual(errors.BadForm(7).line, 7)
        self.assertIn("7", str(errors.BadForm(7)))

    def test_broken(self):
        error = errors.Broken(3, 4, 9)
        self.assertEqual((error.number, error.start, error.end), (3, 4, 9))
