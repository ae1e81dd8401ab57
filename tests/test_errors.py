"""The interface's row errors.py, and point 2 on refusals."""

import unittest

from ringvouch import errors

PLAIN = ("NoRing", "NoLooker", "NoPlan", "NoPlace", "NoBack", "NoHouse", "NoLine", "TooMany", "TooFar")


class ErrorsTest(unittest.TestCase):
    def test_ring_error_stands_under_value_error(self):
        self.assertEqual(errors.RingError.__bases__, (ValueError,))

    def test_each_other_one_stands_straight_under_ring_error(self):
        for name in PLAIN + ("NoRule", "NoText"):
            with self.subTest(name):
                self.assertEqual(getattr(errors, name).__bases__, (errors.RingError,))

    def test_each_is_defined_here(self):
        for name in PLAIN + ("NoRule", "NoText", "RingError"):
            self.assertEqual(getattr(errors, name).__module__, "ringvouch.errors")

    def test_no_rule_has_its_field(self):
        self.assertEqual(errors.NoRule("mirrors").field, "mirrors")
        self.assertEqual(errors.NoRule(field="steps").field, "steps")

    def test_no_text_has_its_row(self):
        self.assertEqual(errors.NoText(0).row, 0)
        self.assertEqual(errors.NoText(row=12).row, 12)

    def test_the_others_are_made_with_a_text(self):
        for name in PLAIN:
            with self.subTest(name):
                self.assertEqual(str(getattr(errors, name)("why so")), "why so")

    def test_each_is_caught_by_its_name_and_as_a_value_error(self):
        for name in PLAIN:
            kind = getattr(errors, name)
            for caught in (kind, errors.RingError, ValueError):
                with self.assertRaises(caught):
                    raise kind("why so")
