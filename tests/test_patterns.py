"""Tests of scarp.patterns: [1.3]."""

import unittest

from scarp import patterns
from scarp.errors import NotAllowed
from scarp.patterns import check_pattern, count_nodes
from tests.samples import row_of

LETTERS = ("on", "off")
ON = ("letter", "on")


def nested_nots(many):
    """`any` behind so many times `not`."""
    pattern = ("any",)
    for _ in range(many):
        pattern = ("not", pattern)
    return pattern


class PatternsTest(unittest.TestCase):
    def test_constant(self):
        self.assertEqual(patterns.MAX_NODES, 30)

    def test_each_form(self):
        for pattern in (ON, ("letter", "off"), ("any",), ("empty",), ("none",), ("row", ON, ("any",)), ("again", ON),
                        ("and", ON, ON), ("or", ("none",), ("empty",)), ("not", ("again", ("row", ON, ON)))):
            self.assertIsNone(check_pattern(LETTERS, pattern))

    def test_wrong_values(self):
        wrong = ["", "any", "on", "letter", (), ("letter",), ("letter", "of"), ("letter", "on", "on"), ("letter", ON),
                 ("letter", ("on",)), ("on",), ("any", ON), ("any", "any"), ("empty", ()), ("none", ON), ("row", ON),
                 ("row", ON, ON, ON), ("row",), ("again",), ("again", ON, ON), ("again", "on"), ("not", "any"),
                 ("not",), ("not", ()), ("and", ON), ("or", ON), ("or", ON, "on"), ("and", "on", ON), (ON,), (ON, ON),
                 (("any",),), ("nor", ON, ON), ("row", ON, ("row", ON, ("letter", "any"))), ("letter", "any"), ("",)]
        for value in wrong:
            with self.assertRaises(NotAllowed, msg=value):
                check_pattern(LETTERS, value)

    def test_nodes(self):
        self.assertIsNone(check_pattern(LETTERS, nested_nots(29)))
        with self.assertRaises(NotAllowed):
            check_pattern(LETTERS, nested_nots(30))
        row = row_of(ON, 15)
        self.assertEqual(count_nodes(row), 29)
        self.assertIsNone(check_pattern(LETTERS, row))
        self.assertIsNone(check_pattern(LETTERS, ("not", row)))
        with self.assertRaises(NotAllowed):
            check_pattern(LETTERS, ("not", ("not", row)))
        with self.assertRaises(NotAllowed):
            check_pattern(LETTERS, row_of(ON, 16))

    def test_count(self):
        self.assertEqual(count_nodes(ON), 1)
        self.assertEqual(count_nodes(("again", ("any",))), 2)
        self.assertEqual(count_nodes(("row", ("or", ON, ON), ("not", ("empty",)))), 6)
        self.assertEqual(count_nodes(nested_nots(29)), 30)
        # A tuple that stands twice is counted twice.
        twice = ("row", ON, ON)
        self.assertEqual(count_nodes(("and", twice, twice)), 7)

    def test_deep_values(self):
        for depth in (31, 100, 197, 198, 199, 200):
            value = "on"
            for _ in range(depth):
                value = ("not", value)
            with self.assertRaises(NotAllowed):
                check_pattern(LETTERS, value)
            with self.assertRaises(NotAllowed):
                check_pattern(LETTERS, ("letter", value[1]))
            value = ("any",)
            for _ in range(depth - 1):
                value = (value,)
            with self.assertRaises(NotAllowed):
                check_pattern(LETTERS, value)

    def test_deep_and_wide(self):
        value = ON
        for _ in range(199):
            value = ("row", value, value)
        with self.assertRaises(NotAllowed):
            check_pattern(LETTERS, value)
        value = ("x", "y")
        for _ in range(199):
            value = (value, value)
        with self.assertRaises(NotAllowed):
            check_pattern(LETTERS, value)
        with self.assertRaises(NotAllowed):
            check_pattern(LETTERS, ("letter", value[0]))
