"""Tests of scarp.stocks: [9.1] and [9.2]."""

import itertools
import random
import unittest

from scarp import stocks
from scarp.errors import NotAllowed
from scarp.stocks import all_slices, check_demand, check_stock, open_slice, row_of


def slow_row(n, stock, span):
    """The row of a slice, by all rows."""
    rows = []
    inner = range(span[0] + 1, span[1])
    for many in range(len(inner) + 1):
        for chosen in itertools.combinations(inner, many):
            row = (span[0], *chosen, span[1])
            if all(y - x == 1 or (x, y) in stock for x, y in zip(row, row[1:])):
                rows.append(row)
        if rows:
            return min(rows)
    return None


def random_stock(rng, n, share):
    """Some of the slices with at least two letters."""
    return tuple((x, y) for x in range(n) for y in range(x + 2, n + 1) if rng.random() < share)


class CheckTest(unittest.TestCase):
    def test_constants(self):
        self.assertEqual((stocks.MAX_SPAN, stocks.MAX_STOCK, stocks.MAX_PIECES), (60, 600, 6))

    def refuse(self, check, *parts):
        with self.assertRaises(NotAllowed, msg=parts):
            check(*parts)

    def test_stocks(self):
        for n, stock in ((1, ()), (60, ()), (2, ((0, 2),)), (4, ((0, 2), (0, 4), (1, 3), (2, 4))), (60, ((0, 60),))):
            self.assertIsNone(check_stock(n, stock))
        for n, stock in ((0, ()), (61, ()), (-1, ()), (1, ((0, 1),)), (4, ((0, 1),)), (4, ((0, 5),)), (4, ((-1, 2),)),
                         (4, ((3, 1),)), (4, ((2, 2),)), (4, ((0, 2), (0, 2))), (4, ((0, 3), (0, 2))),
                         (4, ((1, 3), (0, 2))), (4, ((4, 6),)), (61, ((0, 60),)), (4, ((-2, 0),))):
            self.refuse(check_stock, n, stock)

    def test_six_hundred(self):
        slices = tuple((x, y) for x in range(60) for y in range(x + 2, 61))
        self.assertIsNone(check_stock(60, slices[:600]))
        self.refuse(check_stock, 60, slices[:601])
        self.refuse(check_stock, 60, slices)

    def test_demands(self):
        for n, most, asked in ((1, 1, ()), (60, 6, ()), (4, 2, ((0, 1), (0, 4), (3, 4))), (60, 3, all_slices(60))):
            self.assertIsNone(check_demand(n, most, asked))
        for n, most, asked in ((0, 1, ()), (61, 1, ()), (4, 0, ()), (4, 7, ()), (4, -1, ()), (4, 2, ((0, 0),)),
                               (4, 2, ((0, 5),)), (4, 2, ((-1, 1),)), (4, 2, ((0, 1), (0, 1))), (4, 2, ((0, 2), (0, 1))),
                               (4, 2, ((2, 1),))):
            self.refuse(check_demand, n, most, asked)

    def test_all_slices(self):
        self.assertEqual(all_slices(1), ((0, 1),))
        self.assertEqual(all_slices(3), ((0, 1), (0, 2), (0, 3), (1, 2), (1, 3), (2, 3)))
        for n in (1, 7, 60):
            told = all_slices(n)
            self.assertEqual((len(told), told), (n * (n + 1) // 2, tuple(sorted(set(told)))))
            self.assertTrue(all(0 <= x < y <= n for x, y in told))


class RowTest(unittest.TestCase):
    def test_examples(self):
        self.assertEqual(row_of(4, ((0, 3), (1, 4)), (0, 4)), (0, 1, 4))
        self.assertEqual(row_of(4, ((1, 3),), (0, 4)), (0, 1, 3, 4))
        self.assertEqual(open_slice(4, 2, all_slices(4), ((1, 3),)), (0, 4))
        self.assertIsNone(open_slice(4, 2, all_slices(4), ((0, 3), (1, 4))))

    def test_by_definition(self):
        rng = random.Random(211)
        for _ in range(120):
            n = rng.randint(1, 8)
            stock = random_stock(rng, n, rng.choice((0.05, 0.2, 0.5)))
            rows = {span: slow_row(n, stock, span) for span in all_slices(n)}
            for span in rows:
                self.assertEqual(row_of(n, stock, span), rows[span])
            for most in range(1, 7):
                asked = tuple(span for span in all_slices(n) if rng.random() < rng.choice((0.3, 1)))
                left = [span for span in asked if len(rows[span]) - 1 > most]
                wanted = min(left, key=lambda span: (span[1] - span[0], span), default=None)
                self.assertEqual(open_slice(n, most, asked, stock), wanted)

    def test_wrong_slices(self):
        for span in ((0, 0), (2, 1), (-1, 2), (0, 5), (4, 5), (-2, -1), (5, 7)):
            with self.assertRaises(NotAllowed, msg=span):
                row_of(4, ((0, 3),), span)

    def test_large(self):
        self.assertEqual(row_of(60, (), (0, 60)), tuple(range(61)))
        self.assertEqual(row_of(60, ((0, 30), (30, 60)), (0, 60)), (0, 30, 60))
        stock = tuple((x, x + 2) for x in range(59))
        self.assertEqual(row_of(60, stock, (0, 60)), tuple(range(0, 61, 2)))
        self.assertEqual(row_of(60, stock, (0, 59)), (0, 1) + tuple(range(3, 60, 2)))
        self.assertEqual(open_slice(60, 6, all_slices(60), stock), (0, 13))
        self.assertEqual(open_slice(60, 1, all_slices(60), ()), (0, 2))
        self.assertIsNone(open_slice(60, 1, (), ()))
        self.assertIsNone(open_slice(1, 1, all_slices(1), ()))


if __name__ == "__main__":
    unittest.main()
