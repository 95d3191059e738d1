"""Tests of scarp.players: plays by the papers of [6.3] and [6.4]."""

import random
import unittest

from scarp.errors import BadPaper, Missing, NotAllowed, TooLarge
from scarp.games import play_of
from scarp.players import Attack, Labeller
from scarp.splits import judge_split
from tests.samples import (BRANDT, DROP, LEFT_ZERO, RIGHT_ZERO, TRIVIAL, TURN, power_table, random_log, random_tables,
                           slow_is_split, slow_starts, slow_step)

KINDS = ("good", "forward")


def plays(word, tables):
    """All plays of these tables that end so, with at most three levels."""
    found = []
    for table in tables:
        for kind in KINDS:
            for height in (1, 2, 3):
                for delay in (0, 1, 2):
                    try:
                        play = play_of(table, kind, height, delay)
                    except TooLarge:
                        continue
                    if play[0] == word:
                        found.append((table, kind, height, delay, play[1], play[2]))
    return found


def slow_levels(table, kind, height, delay, starts, choices, log):
    """The levels that a labeller gives by its paper, by the words of the document."""
    if len(log) < delay:
        return []
    level = dict(starts)[log[:delay]]
    levels, stand = [level], slow_starts(height)[level - 1]
    for at in range(delay, len(log)):
        window = log[at - delay:at]
        level = dict(choices)[(stand, window)][table[0].index(log[at])]
        stand = slow_step(table, kind, stand, log[at - delay], level)
        levels.append(level)
    return levels


class LabellerTest(unittest.TestCase):
    def test_example(self):
        _, starts, choices = play_of(DROP, "good", 2, 0)
        labeller = Labeller(DROP, "good", 2, 0, starts, choices)
        self.assertEqual(([len(labeller.give("a")) for _ in range(3)], len(labeller.levels())), ([1, 1, 1], 4))
        self.assertIn(labeller.levels(), [[1, 2, 1, 2], [2, 1, 2, 1]])

    def test_wrong_papers(self):
        _, starts, choices = play_of(DROP, "good", 2, 0)
        higher = tuple((position, (3,)) for position, _ in choices)
        for paper in (((), choices), (starts, ()), (starts, higher), ((((), 3),), choices), (starts + starts, choices)):
            with self.assertRaises(BadPaper):
                Labeller(DROP, "good", 2, 0, *paper)
        with self.assertRaises(BadPaper):
            Labeller(DROP, "good", 2, 1, starts, choices)
        with self.assertRaises(BadPaper):
            Labeller(DROP, "good", 3, 0, starts, choices)

    def test_plays(self):
        rng = random.Random(161)
        done = 0
        for play in plays("labeller", [TRIVIAL, DROP, LEFT_ZERO, RIGHT_ZERO, BRANDT, TURN] + random_tables(162, 10, 8)):
            table, kind, height, delay, starts, choices = play
            labeller = Labeller(*play)
            log = random_log(rng, table, 12)
            given = [] if delay else [labeller.levels()[0]]
            for at in range(13):
                levels = labeller.levels()
                self.assertEqual((labeller.log(), levels), (log[:at], given))
                self.assertEqual(levels, slow_levels(*play, log[:at]))
                split = labeller.finish()
                self.assertIsInstance(split, tuple)
                self.assertEqual((len(split), split[:len(levels)]), (at + 1, tuple(levels)))
                self.assertIsNone(judge_split(table, kind, log[:at], height, split))
                self.assertEqual((labeller.log(), labeller.levels()), (log[:at], levels))
                if at < 12:
                    told = labeller.give(log[at])
                    self.assertEqual(len(told), 1 if at + 1 >= delay else 0)
                    given += told
            if len(log) - delay < 8:
                self.assertTrue(slow_is_split(table, kind, log[:len(given) - 1], given))
            done += 1
        self.assertGreater(done, 60)

    def test_window(self):
        _, starts, choices = play_of(DROP, "good", 2, 2)
        labeller = Labeller(DROP, "good", 2, 2, starts, choices)
        self.assertEqual((labeller.levels(), labeller.give("a")), ([], []))
        self.assertEqual(labeller.finish()[0] in (1, 2), True)
        self.assertEqual((labeller.give("a"), labeller.give("a")), ([1], [2]))
        self.assertEqual((labeller.levels(), labeller.log()), ([1, 2], ("a", "a", "a")))
        self.assertEqual(len(labeller.finish()), 4)

    def test_delay_of_no_letters(self):
        # With the delay 0 place 0 has its level at once, and keeps it.
        _, starts, choices = play_of(LEFT_ZERO, "forward", 1, 0)
        labeller = Labeller(LEFT_ZERO, "forward", 1, 0, starts, choices)
        self.assertEqual((labeller.levels(), labeller.log(), labeller.finish()), ([1], (), (1,)))
        with self.assertRaises(Missing):
            labeller.back()
        self.assertEqual(labeller.levels(), [1])

    def test_wrong_letters(self):
        for delay in (0, 1, 2):
            _, starts, choices = play_of(TURN, "good", 2, delay)
            labeller = Labeller(TURN, "good", 2, delay, starts, choices)
            for letter in ("c", "", "ab", "A"):
                with self.assertRaises(NotAllowed):
                    labeller.give(letter)
            self.assertEqual((labeller.log(), len(labeller.levels())), ((), 0 if delay else 1))

    def test_back(self):
        rng = random.Random(163)
        for table, kind, height in ((TURN, "good", 2), (BRANDT, "forward", 3), (LEFT_ZERO, "forward", 2)):
            for delay in (0, 1, 2):
                try:
                    _, starts, choices = play_of(table, kind, height, delay)
                except TooLarge:
                    continue
                labeller = Labeller(table, kind, height, delay, starts, choices)
                log = ()
                for _ in range(150):
                    if rng.random() < 0.45:
                        if log:
                            self.assertIsNone(labeller.back())
                            log = log[:-1]
                        else:
                            with self.assertRaises(Missing):
                                labeller.back()
                    else:
                        log += (rng.choice(table[0]),)
                        labeller.give(log[-1])
                    self.assertEqual(labeller.log(), log)
                    wanted = slow_levels(table, kind, height, delay, starts, choices, log)
                    self.assertEqual(labeller.levels(), wanted)
                for _ in log:
                    labeller.back()
                with self.assertRaises(Missing):
                    labeller.back()
                self.assertEqual(len(labeller.levels()), 0 if delay else 1)

    def test_many_letters(self):
        _, starts, choices = play_of(TURN, "good", 2, 1)
        labeller = Labeller(TURN, "good", 2, 1, starts, choices)
        for at in range(1000):
            labeller.give("ab"[at % 3 % 2])
        self.assertEqual((len(labeller.levels()), len(labeller.log()), len(labeller.finish())), (1000, 1000, 1001))
        judge_split(TURN, "good", labeller.log(), 2, labeller.finish())

    def test_new_lists(self):
        _, starts, choices = play_of(DROP, "good", 2, 0)
        labeller = Labeller(DROP, "good", 2, 0, starts, choices)
        labeller.give("a").clear()
        labeller.levels().clear()
        self.assertEqual(len(labeller.levels()), 2)


class AttackTest(unittest.TestCase):
    def test_example(self):
        attack = Attack(DROP, "good", 1, 0, (), ((((-1, -1),), (), "a"),))
        told = (attack.options(), attack.answer(1), attack.letters(), attack.options())
        self.assertEqual(told, ([1], None, ("a",), []))

    def test_wrong_papers(self):
        row = (((-1, -1),), (), "a")
        for window, rows in (((), ()), (("a",), (row,)), ((), (row, row)), ((), ((((-1, -1),), (), "b"),)),
                             ((), ((((-1, 1),), (), "a"),))):
            with self.assertRaises(BadPaper):
                Attack(DROP, "good", 1, 0, window, rows)
        with self.assertRaises(BadPaper):
            Attack(DROP, "good", 2, 0, (), (row,))

    def test_plays(self):
        rng = random.Random(164)
        done = 0
        for play in plays("attack", [DROP, TURN, BRANDT, power_table(0, 5), power_table(2, 3)] + random_tables(165, 8, 10)):
            table, kind, height, delay, window, rows = play
            letters_by = {(stand, seen): letter for stand, seen, letter in rows}
            for _ in range(3):
                attack = Attack(*play)
                self.assertEqual((attack.letters(), attack.levels()), (window, []))
                self.assertEqual(attack.options(), list(range(1, height + 1)))
                stand = None
                while attack.options():
                    for level in (0, height + 1, -1, 99):
                        with self.assertRaises(NotAllowed):
                            attack.answer(level)
                    barred = [level for level in range(1, height + 1) if level not in attack.options()]
                    for level in barred:
                        with self.assertRaises(NotAllowed):
                            attack.answer(level)
                    before = (attack.letters(), attack.levels())
                    level = rng.choice(attack.options())
                    attack.answer(level)
                    if stand is None:
                        stand = slow_starts(height)[level - 1]
                    else:
                        stand = slow_step(table, kind, stand, before[0][len(before[1]) - 1], level)
                    self.assertEqual(attack.levels(), before[1] + [level])
                    letters = attack.letters()
                    self.assertEqual((letters[:-1], len(letters)), (before[0], delay + len(attack.levels())))
                    seen = letters[len(letters) - 1 - delay:-1]
                    self.assertEqual(letters[-1], letters_by[(stand, seen)])
                    self.assertTrue(slow_is_split(table, kind, letters[:len(attack.levels()) - 1], attack.levels()))
                    read = letters[len(attack.levels()) - 1]
                    fair = [k for k in range(1, height + 1) if slow_step(table, kind, stand, read, k) is not None]
                    self.assertEqual(attack.options(), fair)
                self.assertLessEqual(len(attack.levels()), len(rows))
                with self.assertRaises(NotAllowed):
                    attack.answer(1)
            done += 1
        self.assertGreater(done, 60)

    def test_new_lists(self):
        _, window, rows = play_of(power_table(0, 4), "good", 2, 1)
        attack = Attack(power_table(0, 4), "good", 2, 1, window, rows)
        attack.options().clear()
        attack.answer(1)
        attack.levels().clear()
        self.assertEqual((attack.levels(), attack.letters()), ([1], ("a", "a")))


if __name__ == "__main__":
    unittest.main()
