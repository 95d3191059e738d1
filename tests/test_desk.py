"""Tests of scarp.desk: [8.1] and [8.2]."""

import random
import unittest

from scarp import desk
from scarp.bounds import bound_of
from scarp.desk import run_script
from scarp.errors import BadForm, Broken, Missing, NotAllowed, TooLarge
from scarp.games import play_of
from scarp.guesses import least_for_all, sets_of
from scarp.lines import read_command
from scarp.patterntexts import read_pattern
from scarp.store import Store


def slow_answer(store, command):
    """The answer of a desk with this store to a command, from the functions that the document names."""
    word, parts = command[0], command[1:]

    def text(log):
        return " ".join(log) if log else "-"

    if word in ("read", "bar"):
        return str(getattr(store, word)(read_pattern(store.letters(), parts[0])))
    if word in ("forget", "allow", "cut", "undo"):
        getattr(store, word)(*parts)
        return "ok"
    if word == "add":
        return str(store.append(parts))
    if word == "log":
        return text(store.log())
    if word == "lets":
        return "yes" if store.lets(*parts) else "no"
    if word == "levels":
        return " ".join(map(str, store.levels()))
    if word == "pieces":
        return str(len(store.pieces(*parts)))
    if word == "steady":
        return str(store.steady())
    if word == "elements":
        return str(len(store.table()[2]))
    if word == "bound":
        return str(bound_of(store.table())[0])
    if word == "least":
        height, log = least_for_all(store.table(), parts[0])
        return str(height) if height == 1 else f"{height} : {text(log)}"
    if parts[1] not in (1, 2, 3, 4) or (word == "play" and parts[2] > 2):
        raise NotAllowed
    if word == "play":
        return play_of(store.table(), *parts)[0]
    answer = sets_of(store.table(), *parts)
    return "enough" if answer[0] == "enough" else "more : " + text(answer[1])


def slow_script(script):
    """The answers to a script."""
    store, answers = None, []
    for line in script.split("\n"):
        command = read_command(line)
        try:
            if command is None:
                answers.append("bad")
            elif command == ():
                answers.append("")
            elif command[0] == "begin":
                store = Store(command[1:])
                answers.append("ok")
            elif store is None:
                answers.append("none")
            else:
                answers.append(slow_answer(store, command))
        except NotAllowed:
            answers.append("refused")
        except BadForm:
            answers.append("form")
        except Missing:
            answers.append("missing")
        except TooLarge:
            answers.append("large")
        except Broken as error:
            answers.append(f"broken {error.number} {error.start} {error.end}")
    return answers


class DeskTest(unittest.TestCase):
    def answers(self, *pairs):
        """Lines, each with its answer."""
        script = "\n".join(line for line, _ in pairs)
        self.assertEqual(run_script(script), [answer for _, answer in pairs])
        self.assertEqual(slow_script(script), [answer for _, answer in pairs])

    def test_constants(self):
        self.assertEqual((desk.MAX_SCRIPT, desk.MAX_LINES), (4000, 60))

    def test_examples(self):
        script = "begin up down\nread again (up down)\nbar down down\nadd up down up\nlets 1 0 2\nadd down down\nlog"
        self.assertEqual(run_script(script), ["ok", "1", "1", "3", "yes", "broken 1 3 5", "up down up"])
        script = "log\nbegin a b\nread again a b\nelements now\nforget 7"
        self.assertEqual(run_script(script), ["none", "ok", "1", "bad", "missing"])

    def test_size(self):
        self.assertEqual(run_script(""), [""])
        self.assertEqual(run_script("\n" * 59), [""] * 60)
        self.assertEqual(run_script("x" * 4000), ["bad"])
        self.assertEqual(len(run_script("log\n" * 59)), 60)
        for script in ("\n" * 60, "x" * 4001, "log\n" * 60, "x" * 5000 + "\n" * 80):
            with self.assertRaises(NotAllowed):
                run_script(script)

    def test_ahead_of_begin(self):
        self.answers(("log", "none"), ("", ""), ("read a", "none"), ("read (", "none"), ("bar ", "none"), ("add x", "none"),
                     ("undo", "none"), ("levels", "none"), ("enough good 9", "none"), ("play good 9 9", "none"),
                     ("lets 0 0 0", "none"), ("what", "bad"), ("read", "bad"), ("begin any", "refused"), ("log", "none"),
                     ("begin", "refused"), ("begin a a", "refused"), ("steady", "none"), ("begin a", "ok"), ("log", "-"))

    def test_begin(self):
        self.answers(("begin a b", "ok"), ("add a b", "2"), ("begin a b c d e", "refused"), ("begin abcdefghi", "refused"),
                     ("begin not", "refused"), ("begin", "refused"), ("log", "a b"), ("begin abcdefgh b", "ok"),
                     ("log", "-"), ("undo", "missing"), ("add abcdefgh", "1"))

    def test_reading(self):
        self.answers(("begin a b", "ok"), ("read ", "form"), ("read   a   (b)", "1"), ("read c", "form"), ("read a)", "form"),
                     ("bar a b", "1"), ("read again(a b)", "2"), ("read any", "3"), ("read a", "large"), ("bar a", "large"),
                     ("read (", "form"), ("bar (", "form"), ("forget 3", "ok"), ("bar empty", "broken 2 0 0"),
                     ("read a a a a a a a a a", "large"), ("bar " + "a " * 500, "form"), ("forget 3", "missing"),
                     ("allow 2", "missing"), ("allow 1", "ok"), ("undo", "ok"), ("read a", "4"))

    def test_log_and_changes(self):
        self.answers(("begin on off", "ok"), ("add", "0"), ("add on off on", "3"), ("add of", "refused"), ("log", "on off on"),
                     ("bar off off", "1"), ("add off off", "broken 1 3 5"), ("add off", "4"), ("add off", "broken 1 3 5"),
                     ("cut 5", "refused"), ("cut 4", "ok"), ("cut 1", "ok"), ("log", "on"), ("undo", "ok"),
                     ("log", "on off on off"), ("undo", "ok"), ("undo", "ok"), ("undo", "ok"), ("add off off", "5"),
                     ("bar off off", "broken 1 3 5"), ("cut 0", "ok"), ("log", "-"))

    def test_long_log(self):
        adds = [("add" + " a" * 100, str(many)) for many in (100, 200, 300, 400)]
        self.answers(("begin a", "ok"), *adds, ("add", "400"), ("add a", "large"), ("add b", "refused"), ("cut 399", "ok"),
                     ("add a", "400"))

    def test_lets_and_pieces(self):
        self.answers(("begin a b", "ok"), ("read again (a b)", "1"), ("add a b a b", "4"), ("lets 1 0 4", "yes"),
                     ("lets 1 0 3", "no"), ("lets 1 2 2", "yes"), ("lets 2 0 0", "missing"), ("lets 2 3 0", "missing"),
                     ("lets 1 3 0", "refused"), ("lets 1 0 5", "refused"), ("pieces 0 0", "0"), ("pieces 3 4", "1"),
                     ("pieces 1 0", "refused"), ("pieces 0 5", "refused"), ("lets 0 0 0", "missing"))

    def test_tables(self):
        self.answers(("begin a b", "ok"), ("elements", "1"), ("bound", "1"), ("steady", "1"), ("levels", "1"),
                     ("least good", "1"), ("least forward", "1"), ("enough good 1", "enough"), ("play good 1 0", "labeller"),
                     ("read again (b or a (again b) a)", "1"), ("elements", "2"), ("bound", "2"), ("steady", "2"),
                     ("least good", "2 : a"), ("enough good 1", "more : a"), ("enough forward 2", "enough"),
                     ("enough good 0", "refused"), ("enough good 5", "refused"), ("enough forward 4", "enough"),
                     ("play good 1 0", "attack"), ("play good 2 2", "labeller"), ("play good 2 3", "refused"),
                     ("play good 0 0", "refused"), ("play good 5 0", "refused"), ("play forward 5 9", "refused"))

    def test_kinds(self):
        # The first letter tells all: that takes one level for the kind forward, and two for the kind good.
        self.answers(("begin a b", "ok"), ("read a (again any)", "1"), ("elements", "2"), ("least forward", "1"),
                     ("least good", "2 : a b"), ("enough forward 1", "enough"), ("enough good 1", "more : a b"),
                     ("play forward 1 0", "labeller"), ("play good 1 0", "attack"), ("play good 2 0", "attack"),
                     ("play good 2 1", "labeller"), ("steady", "1"), ("add a b a b", "4"), ("levels", "1 1 1 1 1"),
                     ("pieces 1 4", "1"))

    def test_large_and_missing(self):
        self.answers(("begin a", "ok"), ("read again (a a a a a a)", "1"), ("read again (a a a a a)", "2"),
                     ("elements", "30"), ("bound", "30"), ("least good", "missing"), ("steady", "0"),
                     ("enough good 4", "more : a a a a a a a a a a a a a a a"), ("read again (a a a a)", "large"))
        script = "begin a b\nread (again any) a b (again any)\nread again (a a b)\n"
        script += "enough good 4\nleast good\nplay forward 4 0\nplay good 4 2\nsteady\nleast forward\nenough forward 3"
        told = run_script(script)
        self.assertEqual(told, slow_script(script))
        self.assertIn("large", told[3:])

    def test_errors_change_nothing(self):
        script = "begin a b\nread a\nadd a b\nbar b a\n"
        asked = "\nlog\nlevels\nelements\nsteady\nread b\nundo"
        wanted = run_script(script + "log" + asked)[5:]
        for wrong in ("read (", "read c", "bar b", "bar empty", "forget 9", "allow 9", "cut 3", "add c", "add a", "lets 9 0 0",
                      "begin a a", "begin any", "enough good 9", "play good 1 7", "pieces 2 1", "what", "", "log"):
            self.assertEqual(run_script(script + wrong + asked)[5:], wanted, wrong)

    def test_random_scripts(self):
        rng = random.Random(201)
        lines = ["begin a b", "begin a", "read a", "read again (a b)", "read not a", "bar b b", "bar a a a", "bar empty",
                 "read (", "forget 1", "forget 2", "allow 1", "undo", "undo", "add a", "add a b", "add b", "add", "cut 1",
                 "cut 3", "log", "lets 1 0 1", "lets 2 1 2", "levels", "pieces 0 2", "pieces 1 1", "steady", "elements",
                 "bound", "least good", "least forward", "enough good 2", "enough forward 3", "play good 2 1",
                 "play forward 2 0", "play good 4 0", "", "x", "add  a", "lets 1 00 0"]
        seen = {}
        for _ in range(60):
            script = "\n".join([rng.choice(lines[:2])] * (rng.random() < 0.9) + rng.choices(lines, k=40))
            told = run_script(script)
            self.assertEqual(told, slow_script(script))
            for answer in told:
                seen[answer.split(" ")[0]] = True
        for answer in ("ok", "bad", "none", "refused", "form", "missing", "broken", "yes", "no", "enough", "more",
                       "labeller", "attack", "-"):
            self.assertIn(answer, seen)

    def test_new_desk_each_time(self):
        self.assertEqual(run_script("begin a\nadd a"), ["ok", "1"])
        self.assertEqual(run_script("log"), ["none"])


if __name__ == "__main__":
    unittest.main()
