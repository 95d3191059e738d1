"""Tests of scarp.words: [1.2]."""

import unittest

from scarp import words
from scarp.errors import NotAllowed
from scarp.words import check_letters, check_log, is_word, log_text, read_log


class WordsTest(unittest.TestCase):
    def test_constants(self):
        self.assertEqual((words.MAX_WORD, words.MAX_LETTERS, words.MAX_LOG), (8, 4, 400))
        self.assertEqual(words.RESERVED, ("any", "empty", "none", "and", "or", "not", "again"))

    def test_words(self):
        for text in ("a", "z", "on", "abcdefgh", "anyx", "nota", "emptyy"):
            self.assertIs(is_word(text), True, text)

    def test_no_words(self):
        for text in ("", "abcdefghi", "A", "aB", "a1", "a b", " a", "a ", "a\n", "a-b", "(", "`", "{", "a" * 1000):
            self.assertIs(is_word(text), False, text)

    def test_reserved(self):
        for text in words.RESERVED:
            self.assertIs(is_word(text), False, text)

    def test_letters(self):
        for letters in (("a",), ("a", "b"), ("a", "b", "c", "d"), ("abcdefgh", "on")):
            self.assertIsNone(check_letters(letters))

    def test_no_letters(self):
        wrong = [(), ("a", "b", "c", "d", "e"), ("a", "a"), ("a", "b", "a"), ("a", "b", "c", "c"), ("any",),
                 ("a", "or"), ("a", ""), ("abcdefghi",), ("a", "B")]
        for letters in wrong:
            with self.assertRaises(NotAllowed, msg=letters):
                check_letters(letters)


class LogsTest(unittest.TestCase):
    def test_lengths(self):
        for many in (0, 1, 399, 400):
            self.assertIsNone(check_log(("a", "b"), ("b",) * many))
        for many in (401, 1000):
            with self.assertRaises(NotAllowed):
                check_log(("a", "b"), ("b",) * many)

    def test_other_words(self):
        for log in (("c",), ("a", "c"), ("a",) * 399 + ("c",), ("",), ("a b",), ("any",)):
            with self.assertRaises(NotAllowed):
                check_log(("a", "b"), log)

    def test_text(self):
        self.assertEqual(log_text(()), "")
        self.assertEqual(log_text(("on",)), "on")
        self.assertEqual(log_text(("on", "off", "on")), "on off on")

    def test_read(self):
        letters = ("on", "off")
        for text in ("", " ", "   "):
            self.assertEqual(read_log(letters, text), ())
        for text in ("on off", "  on   off ", "on off ", " on off"):
            self.assertEqual(read_log(letters, text), ("on", "off"))
        self.assertEqual(read_log(letters, "on " * 400), ("on",) * 400)

    def test_read_wrong(self):
        letters = ("on", "off")
        for text in ("onoff", "on,off", "on\noff", "on\n", "\n", " \n", "On", "any", "on " * 401, "on (off)"):
            with self.assertRaises(NotAllowed, msg=text):
                read_log(letters, text)

    def test_there_and_back(self):
        log = ("on", "off", "off") * 100
        self.assertEqual(read_log(("off", "on"), log_text(log)), log)
