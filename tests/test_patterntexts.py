"""Tests of scarp.patterntexts: [1.5]."""

import random
import unittest

from scarp import patterntexts
from scarp.errors import BadForm
from scarp.patterntexts import pattern_text, read_pattern
from tests.samples import random_pattern, row_of

LETTERS = ("on", "off")
ON = ("letter", "on")
OFF = ("letter", "off")
ANY = ("any",)


class TextsTest(unittest.TestCase):
    def refuse(self, text):
        with self.assertRaises(BadForm, msg=text) as caught:
            read_pattern(LETTERS, text)
        self.assertEqual(caught.exception.line, 1)

    def test_constants(self):
        self.assertEqual((patterntexts.MAX_PATTERN_TEXT, patterntexts.MAX_GROUPS), (1000, 40))

    def test_examples(self):
        whole = read_pattern(("on", "off"), "again (on off) or not any")
        self.assertEqual(whole, ("or", ("again", ("row", ("letter", "on"), ("letter", "off"))), ("not", ("any",))))
        row = ("row", ("letter", "on"), ("row", ("any",), ("again", ("letter", "off"))))
        self.assertEqual(pattern_text(row), "on (any again off)")

    def test_plain_texts(self):
        row, both, either = ("row", ON, OFF), ("and", ON, OFF), ("or", ON, OFF)
        texts = {
            "on": ON, "any": ANY, "empty": ("empty",), "none": ("none",), "on off": row, "on and off": both,
            "on or off": either, "not on": ("not", ON), "again not on": ("again", ("not", ON)),
            "not again not any": ("not", ("again", ("not", ANY))), "not (on off)": ("not", row),
            "not (on and off)": ("not", both), "not (on or off)": ("not", either), "again (on off)": ("again", row),
            "again (on and off)": ("again", both), "again (on or off)": ("again", either),
            "on off any": ("row", row, ANY), "any (on off)": ("row", ANY, row), "(on and off) any": ("row", both, ANY),
            "any (on and off)": ("row", ANY, both), "(on or off) any": ("row", either, ANY),
            "any (on or off)": ("row", ANY, either), "not on off": ("row", ("not", ON), OFF),
            "on not off": ("row", ON, ("not", OFF)), "on off and any": ("and", row, ANY),
            "any and on off": ("and", ANY, row), "on and off and any": ("and", both, ANY),
            "any and (on and off)": ("and", ANY, both), "(on or off) and any": ("and", either, ANY),
            "any and (on or off)": ("and", ANY, either), "on off or any": ("or", row, ANY),
            "any or on off": ("or", ANY, row), "on and off or any": ("or", both, ANY),
            "any or on and off": ("or", ANY, both), "on or off or any": ("or", either, ANY),
            "any or (on or off)": ("or", ANY, either),
        }
        for text, pattern in texts.items():
            self.assertEqual(pattern_text(pattern), text)
            self.assertEqual(read_pattern(LETTERS, text), pattern)

    def test_spaces(self):
        row = ("row", ("again", ("row", ON, OFF)), ANY)
        for text in ("again(on off)any", "  again ( on  off )  any  ", "again(on(off))any", "(again((on)off))any"):
            self.assertEqual(read_pattern(LETTERS, text), row)
        self.assertEqual(read_pattern(LETTERS, "not(on)off"), ("row", ("not", ON), OFF))

    def test_wrong_texts(self):
        for text in ("", " ", "()", "( )", "(", ")", "on)", "(on", "((on)", "(on))", "onoff", "notany", "again",
                     "not", "on or", "or on", "on and", "and on", "on or or off", "on and or off", "not or on", "On",
                     "on\noff", "on\n", "\n", "on, off", "on|off", "on 1", "letter on", "row on off", "of", "offs",
                     "on off (", "abcdefghi", "(on or) off", "not (again) on", "on [off]", "on ) ( off"):
            self.refuse(text)

    def test_letters_count(self):
        self.assertEqual(read_pattern(("of",), "of"), ("letter", "of"))
        with self.assertRaises(BadForm):
            read_pattern(("of",), "on")

    def test_length(self):
        self.assertEqual(read_pattern(LETTERS, " " * 998 + "on"), ON)
        self.assertEqual(read_pattern(LETTERS, "on" + " " * 998), ON)
        self.refuse("on" + " " * 999)
        self.refuse(" " * 1001)
        self.refuse(" " * 1000)

    def test_groups(self):
        self.assertEqual(read_pattern(LETTERS, "(" * 40 + "on" + ")" * 40), ON)
        self.refuse("(" * 41 + "on" + ")" * 41)
        inner = "(" * 39 + "on" + ")" * 39
        self.assertEqual(read_pattern(LETTERS, "(" + inner + " off)"), ("row", ON, OFF))
        # What counts is how deep they stand, not how many there are.
        self.assertEqual(read_pattern(LETTERS, "(((on)))" * 14), row_of(ON, 14))
        deep = read_pattern(LETTERS, "not (" * 29 + "on" + ")" * 29)
        self.assertEqual(pattern_text(deep), "not " * 29 + "on")
        self.refuse("(" * 500 + ")" * 500)
        self.refuse("(" * 1000)

    def test_nodes(self):
        self.assertEqual(read_pattern(LETTERS, "not " * 29 + "on"), read_pattern(LETTERS, "not(" * 29 + "on" + ")" * 29))
        self.refuse("not " * 30 + "on")
        self.assertEqual(read_pattern(LETTERS, " ".join(["on"] * 15)), row_of(ON, 15))
        self.assertEqual(read_pattern(LETTERS, "not(" + " ".join(["on"] * 15) + ")"), ("not", row_of(ON, 15)))
        self.refuse(" ".join(["on"] * 16))
        self.refuse(" and ".join(["on"] * 16))
        self.refuse(" or ".join(["on"] * 16))
        self.refuse("on " * 333)
        self.refuse("not " * 249 + "any")

    def test_there_and_back(self):
        rng = random.Random(15)
        for _ in range(500):
            pattern = random_pattern(rng, LETTERS, rng.randint(1, 30))
            text = pattern_text(pattern)
            self.assertEqual(read_pattern(LETTERS, text), pattern)
            self.assertNotIn("  ", text)
            self.assertNotIn("( ", text)
            self.assertNotIn(" )", text)

    def test_no_parentheses_to_spare(self):
        rng = random.Random(16)
        for _ in range(200):
            text = pattern_text(random_pattern(rng, LETTERS, rng.randint(2, 12)))
            for at, sign in enumerate(text):
                if sign == "(":
                    end = matching(text, at)
                    without = text[:at] + " " + text[at + 1:end] + " " + text[end + 1:]
                    self.assertNotEqual(read_pattern(LETTERS, without), read_pattern(LETTERS, text))


def matching(text, at):
    """The place of the parenthesis that closes the one at this place."""
    depth = 0
    for place in range(at, len(text)):
        depth += (text[place] == "(") - (text[place] == ")")
        if depth == 0:
            return place
    raise AssertionError("the parenthesis is not closed")
