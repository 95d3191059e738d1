"""Tests of scarp.splits: [3.1] to [3.3]."""

import random
import unittest

from scarp import splits
from scarp.errors import BadPaper, NotAllowed
from scarp.splits import check_split, classes_of, height_of, is_split, judge_split
from tests.samples import (BRANDT, DROP, LEFT_ZERO, RIGHT_ZERO, TRIVIAL, TURN, all_splits, logs_up_to, power_table,
                           random_log, random_tables, slow_classes, slow_is_split)


class SplitTest(unittest.TestCase):
    def test_constants(self):
        self.assertEqual((splits.MAX_LEVELS, splits.MAX_HEIGHT), (40, 4))

    def test_check(self):
        for log, split in (((), (1,)), ((), (40,)), (("a",), (1, 40)), (("a", "b"), (3, 1, 2)),
                           (("a",) * 400, (40, 1) * 200 + (7,))):
            self.assertIsNone(check_split(log, split))

    def test_check_wrong(self):
        for log, split in (((), ()), ((), (1, 1)), ((), (0,)), ((), (41,)), ((), (-1,)), (("a",), (1,)),
                           (("a",), (1, 1, 1)), (("a",), (1, 0)), (("a",), (41, 1)), (("a",) * 400, (1,) * 400),
                           (("a",) * 400, (1,) * 402), (("a",) * 400, (1,) * 400 + (41,))):
            with self.assertRaises(NotAllowed, msg=split):
                check_split(log, split)

    def test_height(self):
        for split, height in (((1,), 1), ((40,), 40), ((2, 1, 3, 1), 3), ((4, 4), 4)):
            self.assertEqual(height_of(split), height)

    def test_classes(self):
        self.assertEqual(classes_of((1, 2, 1, 2)), [[0, 2], [1], [3]])
        self.assertEqual(classes_of((3,)), [[0]])
        self.assertEqual(classes_of((1, 2, 2, 3, 2, 1, 2)), [[0, 5], [1, 2, 4], [3], [6]])
        self.assertEqual(classes_of((2, 3, 2, 1, 2, 3)), [[0, 2], [1], [3], [4], [5]])
        self.assertEqual(classes_of((40,) * 401), [list(range(401))])
        rng = random.Random(31)
        for _ in range(200):
            split = tuple(rng.randint(1, 5) for _ in range(rng.randint(1, 25)))
            self.assertEqual(classes_of(split), slow_classes(split))

    def test_new_list(self):
        classes_of((1, 1))[0].append(9)
        self.assertEqual(classes_of((1, 1)), [[0, 1]])


class KindTest(unittest.TestCase):
    def test_examples(self):
        self.assertIs(is_split(DROP, "good", ("a", "a", "a"), (1, 2, 1, 2)), True)
        self.assertIs(is_split(DROP, "good", ("a",), (1, 1)), False)

    def test_all_small_splits(self):
        for table in (TRIVIAL, DROP, LEFT_ZERO, RIGHT_ZERO, BRANDT, TURN, power_table(1, 2)):
            for log in logs_up_to(table[0], 4):
                for split in all_splits(len(log), 3):
                    for kind in ("good", "forward"):
                        self.assertIs(is_split(table, kind, log, split), slow_is_split(table, kind, log, split))

    def test_random(self):
        rng = random.Random(32)
        seen = {("good", True): 0, ("good", False): 0, ("forward", True): 0, ("forward", False): 0}
        for table in random_tables(33, 150, 8):
            for _ in range(15):
                log = random_log(rng, table, rng.randint(1, 7))
                split = tuple(rng.randint(1, 5) for _ in range(len(log) + 1))
                for kind in ("good", "forward"):
                    told = is_split(table, kind, log, split)
                    self.assertIs(told, slow_is_split(table, kind, log, split))
                    seen[kind, told] += 1
        self.assertGreater(min(seen.values()), 50)

    def test_forward_is_wider(self):
        # a and b are left zeros: the class has two idempotents, which fit one another.
        self.assertIs(is_split(LEFT_ZERO, "good", ("a", "b"), (1, 1, 1)), False)
        self.assertIs(is_split(LEFT_ZERO, "forward", ("a", "b"), (1, 1, 1)), True)
        self.assertIs(is_split(RIGHT_ZERO, "forward", ("a", "b"), (1, 1, 1)), False)
        self.assertIs(is_split(LEFT_ZERO, "good", ("a", "a"), (1, 1, 1)), True)
        # In a group, the step over the whole is another value than the steps.
        self.assertIs(is_split(TURN, "forward", ("a", "a"), (1, 1, 1)), False)
        self.assertIs(is_split(TURN, "good", ("a", "a"), (1, 2, 1)), True)

    def test_judge(self):
        log = ("a", "a", "a")
        for height in (2, 3, 40, 1000):
            self.assertIsNone(judge_split(DROP, "good", log, height, (1, 2, 1, 2)))
        for height in (1, 0, -5):
            with self.assertRaises(BadPaper):
                judge_split(DROP, "good", log, height, (1, 2, 1, 2))
        for split in ((1, 1, 2, 1), (1, 1, 1, 1), (2, 2, 1, 2)):
            with self.assertRaises(BadPaper):
                judge_split(DROP, "good", log, 4, split)
        with self.assertRaises(BadPaper):
            judge_split(LEFT_ZERO, "good", ("a", "b"), 4, (1, 1, 1))
        self.assertIsNone(judge_split(LEFT_ZERO, "forward", ("a", "b"), 1, (1, 1, 1)))

    def test_judge_not_allowed_first(self):
        for split in ((1, 2, 1), (1, 2, 1, 2, 1), (), (1, 2, 1, 0), (1, 2, 1, 41), (1, 1, 1, 41)):
            with self.assertRaises(NotAllowed):
                judge_split(DROP, "good", ("a", "a", "a"), 0, split)
