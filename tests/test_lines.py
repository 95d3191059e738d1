"""Tests of scarp.lines: the forms of [8.2]."""

import itertools
import random
import re
import unittest

from scarp.lines import read_command

WORD = "[a-z]+"
NUMBER = "(?:0|[1-9][0-9]{0,6})"
KIND = "(?:good|forward)"
# The forms of the table, as the document writes them.
FORMS = {
    "begin": None, "add": None, "forget": NUMBER, "allow": NUMBER, "cut": NUMBER, "undo": "", "log": "",
    "lets": f"{NUMBER} {NUMBER} {NUMBER}", "levels": "", "pieces": f"{NUMBER} {NUMBER}", "steady": "",
    "elements": "", "bound": "", "least": KIND, "enough": f"{KIND} {NUMBER}", "play": f"{KIND} {NUMBER} {NUMBER}",
}


def slow_command(line):
    """What a line is read as, by regular expressions for the forms of the document."""
    if line == "":
        return ()
    for head in ("read", "bar"):
        if line.startswith(head + " "):
            return (head, line[len(head) + 1:])
    head = line.split(" ")[0]
    if head not in FORMS:
        return None
    form = f"{head}(?: {WORD})*" if FORMS[head] is None else head + (" " + FORMS[head] if FORMS[head] else "")
    if not re.fullmatch(form, line):
        return None
    return (head,) + tuple(int(word) if word.isdigit() else word for word in line.split(" ")[1:])


class LinesTest(unittest.TestCase):
    def test_each_form(self):
        for line, wanted in (("", ()), ("begin up down", ("begin", "up", "down")), ("begin", ("begin",)),
                             ("read again (a b)", ("read", "again (a b)")), ("bar ", ("bar", "")),
                             ("read  a  ", ("read", " a  ")), ("forget 7", ("forget", 7)), ("allow 0", ("allow", 0)),
                             ("cut 9999999", ("cut", 9999999)), ("undo", ("undo",)), ("add", ("add",)),
                             ("add a b a", ("add", "a", "b", "a")), ("log", ("log",)), ("lets 1 0 2", ("lets", 1, 0, 2)),
                             ("levels", ("levels",)), ("pieces 3 40", ("pieces", 3, 40)), ("steady", ("steady",)),
                             ("elements", ("elements",)), ("bound", ("bound",)), ("least good", ("least", "good")),
                             ("enough forward 4", ("enough", "forward", 4)), ("play good 2 0", ("play", "good", 2, 0))):
            self.assertEqual(read_command(line), wanted)
            self.assertEqual(slow_command(line), wanted)

    def test_bad_forms(self):
        for line in (" ", "begin ", "begin  a", "begin a ", " begin a", "begin a  b", "begin A", "begin a1", "begin 1",
                     "read", "bar", "reads a", "Read a", "forget", "forget ", "forget 01", "forget 00", "forget -1",
                     "forget +1", "forget a", "forget 1 2", "forget 12345678", "forget  1", "forget 1 ", "allow", "cut",
                     "cut 1.5", "undo 1", "undo ", "add ", "add  a", "add a ", "add 1", "add a-b", "log ", "log a",
                     "lets 1 2", "lets 1 2 3 4", "lets 1 2 a", "lets 1  2 3", "lets 1 2 03", "levels 1", "pieces 1",
                     "pieces 1 2 3", "pieces 1 00", "steady 1", "elements now", "bound 1", "least", "least bad",
                     "least good 1", "least Good", "enough good", "enough 1", "enough 1 good", "enough good 1 2",
                     "play good 1", "play 1 good 1", "play good 1 1 1", "play fine 1 1", "play good 01 0", "nothing",
                     "beginning a", "addup", "\tlog", "log\t", "log.", "N", "-"):
            self.assertIsNone(read_command(line), line)
            self.assertIsNone(slow_command(line), line)

    def test_all_short_rows(self):
        parts = ("log", "lets", "add", "begin", "least", "enough", "play", "read", "pieces", "cut", "good", "forward",
                 "a", "0", "7", "07", "", "12345678")
        for many in range(1, 4):
            for words in itertools.product(parts, repeat=many):
                line = " ".join(words)
                self.assertEqual(read_command(line), slow_command(line), line)

    def test_random_lines(self):
        rng = random.Random(191)
        heads = list(FORMS) + ["read", "bar", "none"]
        for _ in range(3000):
            parts = [rng.choice(("good", "forward", "1", "0", "20", "a", "ab", "", "01", "9999999", "x1"))
                     for _ in range(rng.randint(0, 4))]
            line = " ".join([rng.choice(heads)] + parts)
            self.assertEqual(read_command(line), slow_command(line), line)


if __name__ == "__main__":
    unittest.main()
