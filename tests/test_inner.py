"""Tests of scarp.choosing and scarp.lost, which other modules share."""

import itertools
import math
import random
import unittest

from scarp.choosing import chosen, count_chosen
from scarp.errors import TooLarge
from scarp.lost import lost_positions, met_positions


class ChoosingTest(unittest.TestCase):
    def test_chosen(self):
        for size in range(6):
            for many in range(size + 2):
                things = tuple("abcdef"[:size])
                self.assertEqual(chosen(things, many), list(itertools.combinations(things, many)))

    def test_count(self):
        for size, most in itertools.product((0, 1, 2, 5, 62, 600), (0, 1, 2, 5, 700)):
            self.assertEqual(count_chosen(size, most), sum(math.comb(size, many) for many in range(min(size, most) + 1)))


class LostTest(unittest.TestCase):
    def test_by_striking_out(self):
        rng = random.Random(451)
        found = 0
        for _ in range(300):
            size = rng.randint(1, 8)
            rows = {at: [[(rng.randrange(9), rng.randrange(size)) for _ in range(rng.randint(0, 2))]
                         for _ in range(rng.randint(0, 3))] for at in range(size)}
            met = met_positions([0], lambda at: rows[at], 8)
            reached = {0}
            for _ in range(size):
                reached |= {to for at in reached for row in rows[at] for _, to in row}
            self.assertEqual(met, {at: rows[at] for at in reached})
            fair = set(reached)
            for _ in range(size):
                fair = {at for at in fair if all(any(to in fair for _, to in row) for row in rows[at])}
            lost = lost_positions(met)
            self.assertEqual(set(lost), reached - fair)
            found += len(lost)
            ahead = set()
            for at, number in lost.items():
                self.assertTrue(all(to in ahead for _, to in rows[at][number]))
                ahead.add(at)
        self.assertGreater(found, 100)

    def test_too_many(self):
        def rows_at(at):
            return [[("on", at + 1)]] if at < 9 else []

        self.assertEqual(len(met_positions([0], rows_at, 10)), 10)
        with self.assertRaises(TooLarge):
            met_positions([0], rows_at, 9)


if __name__ == "__main__":
    unittest.main()
