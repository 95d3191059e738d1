"""Tests of scarp.shortfalls: [3.7]."""

import random
import unittest

from scarp import shortfalls
from scarp.errors import BadPaper, Missing, TooLarge
from scarp.shortfalls import judge_shortfall, least_height, shortfall, split_with
from scarp.splits import height_of, judge_split
from scarp.stands import freer, starts, step
from scarp.tables import table_of
from tests.samples import (BRANDT, DROP, LEFT_ZERO, RIGHT_ZERO, THREE_ROOMS, TRIVIAL, TURN, all_splits, logs_up_to,
                           power_table, random_log, random_tables, slow_is_split)

KINDS = ("good", "forward")
# Logs whose sets have 60 stands and no more, and ones with a set of 61; found by trying.
SIXTY_GOOD = (table_of((("a", "b"), ((3, 1), (0, 0), (3, 2), (1, 1), (4, 1)), (0,))), tuple("aabbaabb"))
SIXTY_FORWARD = (table_of((("a", "b"), ((2, 3), (1, 3), (2, 0), (3, 0)), (0,))), tuple("bababbbaa"))
MORE_GOOD = (table_of((("a", "b", "c"), ((2, 0, 3), (1, 0, 1), (0, 2, 3), (1, 3, 0)), (0,))), tuple("acabab"))
MORE_FORWARD = (table_of((("a", "b", "c"), ((2, 1, 0), (2, 2, 1), (1, 1, 0)), (0,))), tuple("aabcaaabc"))
# A log of the first table with a set of 60 stands on the way to the empty one.
SIXTY_THEN_NONE = tuple("aabaaaababbaaaaaaabbaaaaaaaabbbaaaa")


def slow_sets(table, kind, log, height):
    """The sets of the beginnings of a log, each the freest of all stands, up to the first empty one."""
    sets = [sorted(starts(height))]
    for letter in log:
        if not sets[-1]:
            break
        found = {step(table, kind, stand, letter, level) for stand in sets[-1] for level in range(1, height + 1)}
        found.discard(None)
        sets.append(sorted(s for s in found if not any(other != s and freer(other, s) for other in found)))
    return sets


class SplitWithTest(unittest.TestCase):
    def test_constant(self):
        self.assertEqual(shortfalls.MAX_KEPT, 60)

    def test_examples(self):
        self.assertEqual(shortfall(DROP, "good", ("a",), 1), [[((-1, -1),)], []])
        self.assertEqual(least_height(DROP, "good", ("a", "a", "a", "a", "a")), 2)

    def test_all_short_logs(self):
        for table in (TRIVIAL, DROP, LEFT_ZERO, RIGHT_ZERO, BRANDT, TURN, power_table(1, 2), power_table(0, 4)):
            for kind in KINDS:
                for log in logs_up_to(table[0], 5):
                    self.by_definition(table, kind, log, 2)
                for log in logs_up_to(table[0], 4):
                    self.by_definition(table, kind, log, 1)
                    self.by_definition(table, kind, log, 3)

    def by_definition(self, table, kind, log, height):
        there = any(slow_is_split(table, kind, log, split) for split in all_splits(len(log), height))
        split = split_with(table, kind, log, height)
        self.assertEqual(split is not None, there)
        sets = shortfall(table, kind, log, height)
        self.assertEqual(sets is None, there)
        if there:
            judge_split(table, kind, log, height, split)
        else:
            self.assertEqual(sets, slow_sets(table, kind, log, height))
            self.assertEqual(sets[-1], [])

    def test_empty_log(self):
        for kind in KINDS:
            for height in (1, 4):
                self.assertEqual(len(split_with(BRANDT, kind, (), height)), 1)
                self.assertIsNone(shortfall(BRANDT, kind, (), height))
            self.assertEqual(least_height(BRANDT, kind, ()), 1)

    def test_random(self):
        rng = random.Random(61)
        seen = {"split": 0, "none": 0, "large": 0}
        for table in random_tables(62, 120, 40):
            log = random_log(rng, table, rng.choice((1, 2, 5, 12, 30)))
            for kind in KINDS:
                for height in (1, 2, 3, 4):
                    sets = slow_sets(table, kind, log, height)
                    if max(len(stands) for stands in sets) > 60:
                        self.refuse(table, kind, log, height)
                        seen["large"] += 1
                    elif sets[-1]:
                        judge_split(table, kind, log, height, split_with(table, kind, log, height))
                        self.assertIsNone(shortfall(table, kind, log, height))
                        seen["split"] += 1
                    else:
                        self.assertIsNone(split_with(table, kind, log, height))
                        self.assertEqual(shortfall(table, kind, log, height), sets)
                        self.assertIsNone(judge_shortfall(table, kind, log, height, sets))
                        seen["none"] += 1
        self.assertGreater(min(seen.values()), 5)

    def refuse(self, table, kind, log, height):
        for function in (split_with, shortfall):
            with self.assertRaises(TooLarge):
                function(table, kind, log, height)
        for sets in ([], [[]], slow_sets(table, kind, log, height)):
            with self.assertRaises(TooLarge):
                judge_shortfall(table, kind, log, height, sets)

    def test_sixty(self):
        for kind, (table, log) in (("good", SIXTY_GOOD), ("forward", SIXTY_FORWARD)):
            sizes = [len(stands) for stands in slow_sets(table, kind, log, 4)]
            self.assertEqual((max(sizes), sizes[-1]), (60, 60))
            judge_split(table, kind, log, 4, split_with(table, kind, log, 4))
            self.assertIsNone(shortfall(table, kind, log, 4))
        table = SIXTY_GOOD[0]
        sets = slow_sets(table, "good", SIXTY_THEN_NONE, 4)
        self.assertEqual((max(len(stands) for stands in sets), sets[-1]), (60, []))
        self.assertEqual(shortfall(table, "good", SIXTY_THEN_NONE, 4), sets)
        self.assertIsNone(split_with(table, "good", SIXTY_THEN_NONE, 4))
        # What stands behind the first empty set does not matter.
        self.assertEqual(shortfall(table, "good", (SIXTY_THEN_NONE * 12)[:400], 4), sets)

    def test_sixty_one(self):
        cases = [("good", MORE_GOOD), ("forward", MORE_FORWARD)]
        for kind, (table, log) in cases:
            sizes = [len(stands) for stands in slow_sets(table, kind, log, 4)]
            self.assertEqual((max(sizes[:-1]) <= 60, sizes[-1]), (True, 61))
            self.refuse(table, kind, log, 4)
            judge_split(table, kind, log[:-1], 4, split_with(table, kind, log[:-1], 4))

    def test_long_logs(self):
        rng = random.Random(63)
        for table in (DROP, LEFT_ZERO, BRANDT, TURN, power_table(1, 2)):
            for kind in KINDS:
                log = random_log(rng, table, 400)
                for height in (2, 3, 4):
                    split = split_with(table, kind, log, height)
                    if split is None:
                        sets = shortfall(table, kind, log, height)
                        self.assertIsNone(judge_shortfall(table, kind, log, height, sets))
                    else:
                        judge_split(table, kind, log, height, split)
                        self.assertLessEqual(height_of(split), height)

    def test_same_again(self):
        log = ("a", "b", "b", "a") * 10
        self.assertEqual(split_with(BRANDT, "good", log, 4), split_with(BRANDT, "good", log, 4))
        sets = shortfall(DROP, "good", ("a",), 1)
        sets[0].clear()
        sets.clear()
        self.assertEqual(shortfall(DROP, "good", ("a",), 1), [[((-1, -1),)], []])
        # The sets of this log come again and again, but each of them is a list of its own.
        table = power_table(0, 9)
        sets = shortfall(table, "good", ("a",) * 400, 4)
        before = [list(stands) for stands in sets]
        sets[1].append("x")
        self.assertEqual(sets[2:], before[2:])


class LeastHeightTest(unittest.TestCase):
    def test_heights(self):
        # Between two places of level 1 stand the other places of the period, which are told apart by halves.
        for period, height in ((1, 1), (2, 2), (3, 3), (4, 3), (5, 4), (8, 4)):
            for kind in KINDS:
                self.assertEqual(least_height(power_table(0, period), kind, ("a",) * 60), height)
        for period in (9, 12):
            with self.assertRaises(Missing):
                least_height(power_table(0, period), "good", ("a",) * 60)
        self.assertEqual(least_height(LEFT_ZERO, "good", ("a", "b", "a", "b", "a")), 2)
        self.assertEqual(least_height(LEFT_ZERO, "forward", ("a", "b", "a", "b", "a")), 1)
        self.assertEqual(least_height(DROP, "good", ()), 1)
        self.assertEqual(least_height(DROP, "good", ("a",) * 400), 2)

    def test_by_definition(self):
        rng = random.Random(64)
        seen = {}
        for table in random_tables(65, 80, 12):
            log = random_log(rng, table, 6)
            for kind in KINDS:
                heights = [height for height in (1, 2, 3, 4)
                           if any(slow_is_split(table, kind, log, split) for split in all_splits(6, height))]
                self.assertEqual(least_height(table, kind, log), heights[0])
                seen[heights[0]] = True
        self.assertGreaterEqual(len(seen), 3)

    def test_too_large(self):
        # The heights 1 to 3 are tried first, and are not enough.
        table, log = MORE_GOOD
        self.assertGreaterEqual(least_height(table, "good", log[:-1]), 1)
        rng = random.Random(66)
        seen = {"large": 0, "missing": 0, "found": 0}
        for table in random_tables(67, 60, 40) + [THREE_ROOMS]:
            log = random_log(rng, table, 25)
            told = "missing"
            for height in (1, 2, 3, 4):
                sets = slow_sets(table, "good", log, height)
                if max(len(stands) for stands in sets) > 60:
                    told = "large"
                    break
                if sets[-1]:
                    told = height
                    break
            if told == "large":
                with self.assertRaises(TooLarge):
                    least_height(table, "good", log)
            elif told == "missing":
                with self.assertRaises(Missing):
                    least_height(table, "good", log)
            else:
                self.assertEqual(least_height(table, "good", log), told)
                told = "found"
            seen[told] += 1
        self.assertGreater(seen["large"], 0)
        self.assertGreater(seen["found"], 0)


class JudgeTest(unittest.TestCase):
    def refuse(self, table, kind, log, height, sets):
        with self.assertRaises(BadPaper, msg=sets):
            judge_shortfall(table, kind, log, height, sets)

    def test_each_part_wrong(self):
        table, kind, log, height = power_table(0, 4), "good", ("a",) * 12, 2
        sets = shortfall(table, kind, log, height)
        before = [list(stands) for stands in sets]
        self.assertIsNone(judge_shortfall(table, kind, log, height, sets))
        self.assertEqual(sets, before)
        self.assertGreater(len(sets), 3)
        for at, stands in enumerate(sets):
            self.refuse(table, kind, log, height, sets[:at])
            self.refuse(table, kind, log, height, sets[:at] + sets[at + 1:])
            self.refuse(table, kind, log, height, sets[:at] + [stands] + sets[at:])
            self.refuse(table, kind, log, height, sets[:at] + [stands + [((-1, 3), ())]] + sets[at + 1:])
            self.refuse(table, kind, log, height, sets[:at] + [stands + [()]] + sets[at + 1:])
            for number, stand in enumerate(stands):
                without = stands[:number] + stands[number + 1:]
                self.refuse(table, kind, log, height, sets[:at] + [without] + sets[at + 1:])
                for other in (((), ()), ((7, 7), ()), (), stand + ((),), stand[:1]):
                    if other != stand:
                        wrong = stands[:number] + [other] + stands[number + 1:]
                        self.refuse(table, kind, log, height, sets[:at] + [wrong] + sets[at + 1:])
            if len(stands) > 1:
                self.refuse(table, kind, log, height, sets[:at] + [stands[::-1]] + sets[at + 1:])
        self.refuse(table, kind, log, height, sets + [[]])
        self.refuse(table, kind, log, 1, sets)

    def test_log_with_split(self):
        sets = slow_sets(DROP, "good", ("a", "a"), 2)
        for paper in ([], [[]], sets, sets + [[]], [sets[0], []]):
            self.refuse(DROP, "good", ("a", "a"), 2, paper)
