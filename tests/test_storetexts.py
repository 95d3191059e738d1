"""Tests of scarp.storetexts: images of stores ([7.5])."""

import random
import unittest

from scarp.errors import BadForm, Broken, Missing, NotAllowed, TooLarge
from scarp.patterntexts import read_pattern
from scarp.store import Store
from scarp.storetexts import load_store
from tests.samples import random_pattern

GOOD = "store 4 3\nletter a\nletter b\nread 1 again (a b)\nread 3 a\nbar 2 b b\nlog a b a\n"


class LoadTest(unittest.TestCase):
    def bad(self, text, line):
        with self.assertRaises(BadForm, msg=text) as caught:
            load_store(text)
        self.assertEqual(caught.exception.line, line, text)

    def bad_line(self, number, wrong):
        """The good image with another line in the place of one is bad at this line."""
        lines = GOOD.split("\n")
        lines[number - 1] = wrong
        self.bad("\n".join(lines), number)

    def test_good(self):
        store = load_store(GOOD)
        self.assertEqual((store.letters(), store.log()), (("a", "b"), ("a", "b", "a")))
        again = read_pattern(("a", "b"), "again (a b)")
        self.assertEqual(store.readers(), [(1, again), (3, ("letter", "a"))])
        self.assertEqual(store.bars(), [(2, ("row", ("letter", "b"), ("letter", "b")))])
        self.assertEqual((store.image(), store.changes()), (GOOD, 0))
        self.assertEqual((store.read(("any",)), store.lets(1, 0, 2)), (4, True))

    def test_numbers_go_on(self):
        store = load_store(GOOD)
        store.forget(1)
        self.assertEqual((store.bar(("row", ("letter", "a"), ("letter", "a"))), store.read(("any",))), (3, 4))

    def test_no_undo(self):
        store = load_store(GOOD)
        with self.assertRaises(Missing):
            store.undo()
        store.cut(1)
        store.undo()
        with self.assertRaises(Missing):
            store.undo()
        self.assertEqual(store.image(), GOOD)

    def test_empty_stores(self):
        for text in ("store 1 1\nletter a\nlog\n", "store 1000000 1000000\nletter a\nletter bcdefghi\nlog\n",
                     "store 7 1\nletter a\nletter b\nletter c\nletter d\nlog\n"):
            self.assertEqual(load_store(text).image(), text)
        self.assertEqual(Store(("a",)).image(), "store 1 1\nletter a\nlog\n")

    def test_round_trips(self):
        rng = random.Random(181)
        for _ in range(60):
            letters = ("up", "down", "on", "off")[:rng.randint(1, 4)]
            store = Store(letters)
            for _ in range(12):
                try:
                    sort = rng.randrange(5)
                    new = random_pattern(rng, letters, rng.randint(1, 9))
                    if sort == 0:
                        store.read(new)
                    elif sort == 1:
                        store.bar(new)
                    elif sort == 2 and store.readers():
                        store.forget(rng.choice(store.readers())[0])
                    elif sort == 3 and store.bars():
                        store.allow(rng.choice(store.bars())[0])
                    else:
                        store.append(tuple(rng.choice(letters) for _ in range(rng.randint(0, 6))))
                except (Broken, TooLarge):
                    continue
            other = load_store(store.image())
            for ask in ("letters", "log", "readers", "bars", "table", "steady", "image"):
                self.assertEqual(getattr(other, ask)(), getattr(store, ask)())
            self.assertEqual(other.changes(), 0)
            if len(store.readers()) + len(store.bars()) < 4:
                self.assertEqual(other.read(("none",)), store.read(("none",)))

    def test_first_line(self):
        for wrong in ("store 1", "store 1 1 1", "store", "store 0 1", "store 1 0", "store 01 1", "store 1 01",
                      "store 1000001 1", "store 1 1000001", "store 10000000 1", "store  1 1", "store 1 1 ", " store 1 1",
                      "store a 1", "store -1 1", "store +1 1", "stores 1 1", "letter a", "log", "", "read 1 a",
                      "store 1 " + "9" * 5000, "Store 1 1"):
            self.bad_line(1, wrong)

    def test_letters(self):
        for wrong in ("letter", "letter ", "letter  a", "letter a ", "letter a c", "letter any", "letter A",
                      "letter abcdefghi", "letter not", "letter a1", "store 4 3", "", "c", "letters c", "letter (a)"):
            self.bad_line(2, wrong)
        self.bad_line(3, "letter a")
        self.bad("store 1 1\nletter a\nletter b\nletter c\nletter d\nletter e\nlog\n", 6)
        self.bad("store 1 1\nletter a\nletter b\nletter c\nletter d\nletter d\nlog\n", 6)
        self.bad("store 1 1\nread 1 a\nletter a\nlog\n", 2)
        self.bad("store 2 1\nread 1 a\nletter a\nlog\n", 2)
        self.bad("store 1 1\nlog\n", 2)
        self.bad("store 1 2\nbar 1 a\nlog\n", 2)
        self.bad("store 2 1\nletter a\nread 1 a\nletter b\nlog\n", 4)
        self.bad("store 2 2\nletter a\nbar 1 a a\nletter b\nlog\n", 4)

    def test_patterns(self):
        for wrong in ("read", "read ", "read 1", "read 1 ", "read 1  a", "read 01 a", "read 0 a", "read 4 a", "read 5 a",
                      "read a a", "read 1 c", "read 1 (a)", "read 1 a  b", "read 1 a b ", "read 1 again(a b)",
                      "read 1 (a b) a", "read 1 a or", "read 10000000 a", "read -1 a", "reads 1 a", "read 1 a%b",
                      "read 1 not " + "not " * 29 + "a", "read " + "1" * 5000 + " a"):
            self.bad_line(4, wrong)
        for wrong in ("read 1 a", "read 0 a", "read 4 a"):
            self.bad_line(5, wrong)
        for wrong in ("bar", "bar 1", "bar 3 b b", "bar 4 b b", "bar 0 b b", "bar 2 bb", "bar 2 (b b)", "bar 2 b b "):
            self.bad_line(6, wrong)
        self.bad_line(5, "letter c")
        self.bad_line(5, "store 4 3")
        # Patterns that are read stand ahead of those that are barred.
        self.bad("store 4 3\nletter a\nletter b\nbar 2 b b\nread 1 a\nlog\n", 5)
        # The numbers of each kind are their own.
        self.assertEqual(len(load_store("store 3 3\nletter a\nread 2 a\nbar 1 a a\nbar 2 a a\nlog a\n").bars()), 2)

    def test_plain_texts(self):
        for text in ("again (a b)", "a or b", "(a or b) a", "a (b a)", "not again a", "a and (b and a)", "a or (b or a)"):
            image = f"store 2 1\nletter a\nletter b\nread 1 {text}\nlog\n"
            self.assertEqual(load_store(image).image(), image)
        for text in ("(a)", "a or (b and a)", "(a b) a", "not (not a)", "again  a", "a or b ", "(again a) b", "not(a b)"):
            self.bad(f"store 2 1\nletter a\nletter b\nread 1 {text}\nlog\n", 4)

    def test_five_patterns(self):
        four = "store 9 9\nletter a\nread 1 a\nread 2 a\nbar 1 a a\nbar 2 a a\n"
        self.assertEqual(len(load_store(four + "log a\n").readers()), 2)
        self.bad(four + "bar 3 a a\nlog a\n", 7)
        self.bad("store 9 9\nletter a\nread 1 a\nread 2 a\nread 3 a\nread 4 a\nread 5 a\nlog\n", 7)

    def test_log(self):
        for wrong in ("log ", "log  a", "log a ", "log a  b", "log c", "log a b c", "log any", "Log", "logs", " log",
                      "bar 2 b b", "letter a", ""):
            self.bad_line(7, wrong)
        self.bad_line(7, "log" + " a" * 401)
        self.assertEqual(len(load_store(GOOD.replace("log a b a", "log" + " a" * 400)).log()), 400)
        for more in ("log\n", "log a\n", "letter c\n", "read 3 a\n", "\n", "x\n", " \n"):
            self.bad(GOOD + more, 8)

    def test_no_newline(self):
        self.bad(GOOD[:-1], 7)
        self.bad("store 1 1", 1)
        self.bad("x", 1)
        self.bad(GOOD + "log", 8)
        self.bad(GOOD + " ", 8)

    def test_no_log(self):
        self.bad("", 1)
        lines = GOOD.split("\n")
        for many in range(1, 7):
            self.bad("\n".join(lines[:many]) + "\n", many + 1)

    def test_first_bad_line(self):
        self.bad("store 4 3\nletter any\nread 9 a\nlog c", 2)
        self.bad("store 4 3\nletter a\nread 9 a\nlog c", 3)
        self.bad("store 2 3\nletter a\nread 1 a\nlog c", 4)

    def test_too_long(self):
        self.bad(GOOD + "x" * (9001 - len(GOOD)), 0)
        self.bad("x" * 9001, 0)
        self.bad("\n" * 9001, 0)
        self.bad("\n" * 9000, 1)
        self.bad(GOOD + "x" * (9000 - len(GOOD)), 8)
        self.bad(GOOD[:-1] + " a" * 4000 + "\n", 7)

    def test_too_large(self):
        nine = "again (" + " ".join(["a"] * 9) + ")"
        with self.assertRaises(TooLarge):
            load_store(f"store 2 1\nletter a\nread 1 {nine}\nlog\n")
        cycles = ["again (" + " ".join(["a"] * many) + ")" for many in (6, 5, 4)]
        store = load_store(f"store 3 1\nletter a\nread 1 {cycles[0]}\nread 2 {cycles[1]}\nlog\n")
        self.assertEqual(len(store.table()[2]), 30)
        with self.assertRaises(TooLarge):
            load_store(f"store 4 1\nletter a\nread 1 {cycles[0]}\nread 2 {cycles[1]}\nread 3 {cycles[2]}\nlog\n")
        # Bad lines are told first, and what is too large ahead of what is barred.
        self.bad(f"store 2 1\nletter a\nread 1 {nine}\nlog b\n", 4)
        with self.assertRaises(TooLarge):
            load_store(f"store 2 2\nletter a\nread 1 {nine}\nbar 1 a\nlog a\n")

    def test_broken(self):
        for log, wanted in (("b b", (2, 0, 2)), ("a b b b", (2, 1, 3))):
            with self.assertRaises(Broken) as caught:
                load_store(GOOD.replace("log a b a", "log " + log))
            error = caught.exception
            self.assertEqual((error.number, error.start, error.end), wanted)
        with self.assertRaises(Broken) as caught:
            load_store("store 1 9\nletter a\nbar 3 a a\nbar 5 again a\nlog\n")
        self.assertEqual((caught.exception.number, caught.exception.start, caught.exception.end), (5, 0, 0))

    def test_store_is_its_own(self):
        first, second = load_store(GOOD), load_store(GOOD)
        first.cut(0)
        self.assertEqual(second.log(), ("a", "b", "a"))
        with self.assertRaises(NotAllowed):
            first.append(("c",))


if __name__ == "__main__":
    unittest.main()
