"""Tests of scarp.builds: [3.4]."""

import random
import unittest

from scarp.bounds import bound_of
from scarp.builds import split_of
from scarp.splits import check_split, classes_of, height_of, judge_split
from scarp.tables import table_of
from tests.samples import (BRANDT, FORTY, THREE_ROOMS, fixed_tables, logs_up_to, power_table, random_log,
                           random_tables, slow_is_split)


class BuildTest(unittest.TestCase):
    def holds(self, table, log, bound):
        split = split_of(table, log)
        check_split(log, split)
        self.assertLessEqual(height_of(split), bound)
        judge_split(table, "good", log, bound, split)
        return split

    def holds_by_all_pairs(self, table, log, bound):
        split = self.holds(table, log, bound)
        products = table[2]
        elements = [table[1][table[0].index(letter)] for letter in log]
        for places in classes_of(split):
            unit = None
            for at, first in enumerate(places):
                value, last = None, first
                for other in places[at + 1:]:
                    for element in elements[last:other]:
                        value = element if value is None else products[value][element]
                    last = other
                    unit = value if unit is None else unit
                    self.assertEqual(value, unit)
                    self.assertEqual(products[value][value], value)

    def test_no_letter_and_one(self):
        for table in fixed_tables() + random_tables(41, 60, 40):
            bound = bound_of(table)[0]
            for log in logs_up_to(table[0], 1):
                self.holds_by_all_pairs(table, log, bound)

    def test_all_short_logs(self):
        for table in fixed_tables() + random_tables(42, 30, 12):
            bound = bound_of(table)[0]
            for log in logs_up_to(table[0], 7 if len(table[0]) < 3 else 5):
                split = self.holds(table, log, bound)
                self.assertTrue(slow_is_split(table, "good", log, split))

    def test_long_logs(self):
        rng = random.Random(43)
        for table in fixed_tables() + random_tables(44, 150, 40):
            bound = bound_of(table)[0]
            for many in (rng.randint(2, 60), rng.randint(61, 399), 400):
                self.holds_by_all_pairs(table, random_log(rng, table, many), bound)
            for log in ((table[0][0],) * 400, (table[0] * 400)[:400]):
                self.holds_by_all_pairs(table, log, bound)

    def test_rare_letters(self):
        # Long stretches in which the value stays in a high class, with few letters that bring it down.
        rng = random.Random(45)
        for table in (BRANDT, THREE_ROOMS, table_of(FORTY)):
            bound = bound_of(table)[0]
            for seldom in (3, 10, 40, 150):
                log = tuple(rng.choice(table[0][:-1]) if rng.randrange(seldom) else table[0][-1] for _ in range(400))
                self.holds_by_all_pairs(table, log, bound)

    def test_groups(self):
        # The bound of a group is the number of its elements.
        for period in (1, 2, 7, 40):
            self.holds_by_all_pairs(power_table(0, period), ("a",) * 400, period)

    def test_same_again(self):
        log = ("a", "b", "b", "a") * 30
        self.assertEqual(split_of(BRANDT, log), split_of(BRANDT, log))
        self.assertIsInstance(split_of(BRANDT, log), tuple)
