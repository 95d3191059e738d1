"""Tests of scarp.stands: [3.5] and [3.6]."""

import itertools
import random
import unittest

from scarp.green import idempotents
from scarp.stands import freer, freest, possible, starts, step
from tests.samples import (BRANDT, DROP, LEFT_ZERO, RIGHT_ZERO, TURN, all_splits, logs_up_to, power_table, random_log,
                           random_tables, slow_freer, slow_is_split, slow_step)


def random_stand(rng, table, height):
    """Any tuple of entries, whether steps lead to it or not."""
    units = idempotents(table) + [-1]
    values = list(range(len(table[2]))) + [-1]
    return tuple(rng.choice(((), (rng.choice(values), rng.choice(units)))) for _ in range(height))


def walk(table, kind, log, split, height):
    """Whether all steps of some levels are possible from the start with the first one."""
    stand = starts(height)[split[0] - 1]
    for letter, level in zip(log, split[1:]):
        stand = step(table, kind, stand, letter, level)
        if stand is None:
            return False
    return True


class StepTest(unittest.TestCase):
    def test_example(self):
        self.assertEqual(starts(2), [((-1, -1), ()), ((), (-1, -1))])
        stand = step(DROP, "good", ((-1, -1), ()), "a", 2)
        self.assertEqual(stand, ((0, -1), (-1, -1)))
        self.assertEqual(possible(DROP, "good", stand, "a"), [1])
        self.assertEqual(step(DROP, "good", stand, "a", 1), ((-1, 1), ()))

    def test_starts(self):
        self.assertEqual(starts(1), [((-1, -1),)])
        self.assertEqual(starts(4), [((-1, -1), (), (), ()), ((), (-1, -1), (), ()), ((), (), (-1, -1), ()),
                                     ((), (), (), (-1, -1))])
        starts(1).clear()
        self.assertEqual(len(starts(1)), 1)

    def test_closing(self):
        stand = ((1, -1), (0, -1), (-1, 1), (1, 1))
        self.assertEqual(step(DROP, "good", stand, "a", 1), ((-1, 1), (), (), ()))
        self.assertEqual(step(DROP, "good", stand, "a", 2), ((1, -1), (-1, 1), (), ()))
        self.assertIsNone(step(DROP, "good", stand, "a", 3))
        self.assertEqual(step(DROP, "good", stand, "a", 4), ((1, -1), (1, -1), (0, 1), (-1, 1)))
        self.assertEqual(possible(DROP, "good", stand, "a"), [1, 2, 4])
        self.assertEqual(step(DROP, "good", ((), (0, -1), ()), "a", 1), ((-1, -1), (), ()))
        self.assertEqual(step(DROP, "good", ((), (0, -1), ()), "a", 3), ((), (1, -1), (-1, -1)))

    def test_units(self):
        # Two left zeros fit one another, and the least one is kept; two right zeros do not fit.
        self.assertEqual(step(LEFT_ZERO, "forward", ((-1, -1),), "b", 1), ((-1, 0),))
        self.assertEqual(step(LEFT_ZERO, "forward", ((-1, 1),), "a", 1), ((-1, 0),))
        self.assertEqual(step(LEFT_ZERO, "good", ((-1, -1),), "b", 1), ((-1, 1),))
        self.assertIsNone(step(LEFT_ZERO, "good", ((-1, 1),), "a", 1))
        self.assertEqual(step(RIGHT_ZERO, "forward", ((-1, -1),), "b", 1), ((-1, 1),))
        self.assertIsNone(step(RIGHT_ZERO, "forward", ((-1, 1),), "a", 1))
        self.assertEqual(possible(RIGHT_ZERO, "forward", ((-1, 1),), "a"), [])
        self.assertEqual(step(RIGHT_ZERO, "forward", ((0, 1),), "b", 1), ((-1, 1),))
        self.assertIsNone(step(TURN, "good", ((-1, -1),), "a", 1))
        self.assertEqual(step(TURN, "good", ((0, 1),), "a", 1), ((-1, 1),))

    def test_by_definition(self):
        rng = random.Random(51)
        for table in [BRANDT, LEFT_ZERO, power_table(1, 3)] + random_tables(52, 120, 40):
            for _ in range(25):
                stand = random_stand(rng, table, rng.randint(1, 4))
                letter = rng.choice(table[0])
                for kind in ("good", "forward"):
                    levels = range(1, len(stand) + 1)
                    told = [step(table, kind, stand, letter, level) for level in levels]
                    self.assertEqual(told, [slow_step(table, kind, stand, letter, level) for level in levels])
                    here = [level for level in levels if told[level - 1] is not None]
                    self.assertEqual(possible(table, kind, stand, letter), here)

    def test_steps_are_splits(self):
        for table in (DROP, LEFT_ZERO, RIGHT_ZERO, BRANDT, TURN, power_table(1, 2)):
            for log in logs_up_to(table[0], 4):
                for split in all_splits(len(log), 3):
                    for kind in ("good", "forward"):
                        wanted = slow_is_split(table, kind, log, split)
                        self.assertIs(walk(table, kind, log, split, 3), wanted)

    def test_steps_are_splits_of_random_tables(self):
        rng = random.Random(53)
        for table in random_tables(54, 60, 10):
            log = random_log(rng, table, 5)
            for split in all_splits(5, 3):
                for kind in ("good", "forward"):
                    self.assertIs(walk(table, kind, log, split, 4), slow_is_split(table, kind, log, split))


class FreeTest(unittest.TestCase):
    def test_freer(self):
        stand = ((1, 1), (-1, -1), (0, -1), ())
        for other in (stand, ((), (), (), ()), ((1, -1), (-1, -1), (0, -1), ()), ((), (-1, -1), (), ())):
            self.assertIs(freer(other, stand), True)
        for other in (((1, 1), (-1, -1), (0, -1), (0, -1)), ((0, 1), (-1, -1), (0, -1), ()),
                      ((1, 2), (-1, -1), (0, -1), ()), ((1, 1), (-1, 1), (0, -1), ()), ((-1, -1), (), (), ())):
            self.assertIs(freer(other, stand), False)

    def test_all_small_stands(self):
        entries = [()] + [(value, unit) for value in (-1, 0, 1) for unit in (-1, 0, 1)]
        stands = list(itertools.product(entries, repeat=2))
        for first in stands:
            for second in stands:
                self.assertIs(freer(first, second), slow_freer(first, second))

    def test_freer_may_do_more(self):
        rng = random.Random(55)
        for table in random_tables(56, 60, 12):
            for _ in range(40):
                first, second = random_stand(rng, table, 2), random_stand(rng, table, 2)
                if freer(first, second):
                    letter = rng.choice(table[0])
                    for level in possible(table, "forward", second, letter):
                        lead = [step(table, "forward", stand, letter, level) for stand in (first, second)]
                        self.assertTrue(freer(lead[0], lead[1]))

    def test_freest(self):
        self.assertEqual(freest([]), [])
        self.assertEqual(freest([((1, 1),), ((1, -1),), ((0, 1),), ((0, 1),)]), [((0, 1),), ((1, -1),)])
        self.assertEqual(freest([((1, 1),), ()[:0] + ((),), ((1, -1),)]), [((),)])
        self.assertEqual(freest(starts(3)), sorted(starts(3)))

    def test_freest_by_definition(self):
        rng = random.Random(57)
        entries = [(), (-1, -1), (0, -1), (0, 0), (0, 1), (1, -1), (1, 1)]
        for _ in range(300):
            height = rng.randint(1, 4)
            stands = [tuple(rng.choice(entries) for _ in range(height)) for _ in range(rng.randint(1, 40))]
            before = list(stands)
            wanted = {s for s in stands if not any(slow_freer(other, s) and other != s for other in stands)}
            self.assertEqual(freest(stands), sorted(wanted))
            self.assertEqual(stands, before)
