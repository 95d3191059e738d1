"""Tests of scarp.losses: [9.7]."""

import itertools
import random
import unittest

from scarp import losses
from scarp.errors import NotAllowed, TooLarge
from scarp.losses import best_stock, check_weights, first_loss, total_of
from scarp.stocks import all_slices, check_stock, open_slice, row_of


def slow_loss(n, most, asked, stock, many):
    """The first tuple whose loss the stock does not stand, by trying all of them."""
    for size in range(many + 1):
        for lost in itertools.combinations(stock, size):
            left = tuple(span for span in stock if span not in lost)
            if any(len(row_of(n, left, span)) - 1 > most for span in asked):
                return lost
    return None


def slow_total(n, stock, weights):
    """The sum of the weights times the pieces of the rows."""
    return sum(weight * (len(row_of(n, stock, (x, y))) - 1) for x, y, weight in weights)


def slow_best(n, room, weights):
    """The least total and the first stock that has it, by all stocks."""
    spans = [(x, y) for x in range(n) for y in range(x + 2, n + 1)]
    totals = [(slow_total(n, stock, weights), many, stock) for many in range(min(room, len(spans)) + 1)
              for stock in itertools.combinations(spans, many)]
    total, _, stock = min(totals)
    return total, stock


def random_slices(rng, n, share, least):
    """Some of the slices with at least so many letters, ascending."""
    return tuple((x, y) for x in range(n) for y in range(x + least, n + 1) if rng.random() < share)


def random_weights(rng, n, share):
    """A weighted list."""
    return tuple((x, y, rng.randint(1, 99)) for x, y in random_slices(rng, n, share, 1))


class LossTest(unittest.TestCase):
    def test_constants(self):
        self.assertEqual((losses.MAX_WEIGHT, losses.MAX_LOST, losses.MAX_TRIED), (99, 2, 2000))

    def test_examples(self):
        self.assertIsNone(first_loss(4, 2, all_slices(4), ((0, 3), (0, 4), (1, 3), (1, 4)), 1))
        self.assertEqual(first_loss(4, 2, all_slices(4), ((0, 3), (1, 4)), 1), ((0, 3),))

    def test_by_definition(self):
        rng = random.Random(301)
        seen = {}
        for _ in range(400):
            n = rng.randint(1, 7)
            stock = random_slices(rng, n, rng.choice((0.2, 0.5, 0.9)), 2)
            asked = random_slices(rng, n, rng.choice((0.1, 0.4, 1)), 1)
            most = rng.randint(1, 4)
            for many in (0, 1, 2):
                wanted = slow_loss(n, most, asked, stock, many)
                self.assertEqual(first_loss(n, most, asked, stock, many), wanted)
                seen[wanted if wanted is None else len(wanted)] = True
        self.assertEqual(sorted(seen, key=str), [0, 1, 2, None])

    def test_nothing_to_lose(self):
        # The empty tuple is tried first: a stock that does not meet the demand does not stand its loss.
        self.assertEqual(first_loss(3, 1, all_slices(3), (), 0), ())
        self.assertEqual(first_loss(3, 1, all_slices(3), ((0, 2),), 2), ())
        self.assertIsNone(first_loss(3, 3, all_slices(3), (), 2))
        self.assertIsNone(first_loss(3, 1, (), ((0, 2), (0, 3), (1, 3)), 2))
        self.assertEqual(first_loss(3, 1, ((0, 3),), ((0, 2), (0, 3), (1, 3)), 2), ((0, 3),))
        # Of a pair, each alone may be lost.
        self.assertEqual(first_loss(4, 2, ((0, 4),), ((0, 3), (1, 4)), 1), None)
        self.assertEqual(first_loss(4, 2, ((0, 4),), ((0, 3), (1, 4)), 2), ((0, 3), (1, 4)))

    def test_how_many_are_lost(self):
        for many in (-1, 3, 100):
            with self.assertRaises(NotAllowed):
                first_loss(4, 2, all_slices(4), (), many)
        slices = tuple((x, y) for x in range(60) for y in range(x + 2, 61))
        with self.assertRaises(NotAllowed):
            first_loss(60, 6, (), slices[:600], 3)

    def test_too_many(self):
        slices = tuple((x, y) for x in range(60) for y in range(x + 2, 61))
        # 62 slices make 1954 tuples of at most two of them, 63 make 2017; there is no number of them with just 2000.
        self.assertIsNone(first_loss(60, 6, ((0, 1),), slices[:62], 2))
        self.assertIsNone(first_loss(60, 6, ((0, 60),), slices[:62], 2))
        self.assertEqual(first_loss(60, 1, ((0, 60),), slices[:62], 2), ((0, 60),))
        self.assertEqual(first_loss(60, 1, ((59, 60), (50, 60)), slices[:62], 2), ())
        for asked in ((), ((0, 60),)):
            with self.assertRaises(TooLarge):
                first_loss(60, 6, asked, slices[:63], 2)
        self.assertIsNone(first_loss(60, 6, (), slices[:600], 1))
        self.assertEqual(first_loss(60, 1, ((0, 20),), slices[:600], 1), ((0, 20),))
        self.assertEqual(first_loss(60, 1, ((0, 20),), slices[:600], 0), None)

    def test_a_stock_that_stands_two(self):
        # Each slice of three letters is at hand thrice in one or another way.
        stock = tuple((x, y) for x in range(6) for y in range(x + 2, 7))
        self.assertEqual(first_loss(6, 2, all_slices(6), stock, 2), slow_loss(6, 2, all_slices(6), stock, 2))
        self.assertIsNone(first_loss(6, 3, all_slices(6), stock, 2))


class WeightsTest(unittest.TestCase):
    def test_lists(self):
        for n, weights in ((1, ()), (60, ()), (1, ((0, 1, 1),)), (4, ((0, 1, 99), (0, 4, 1), (3, 4, 50))),
                           (60, tuple((x, y, 1) for x, y in all_slices(60)))):
            self.assertIsNone(check_weights(n, weights))
        for n, weights in ((0, ()), (61, ()), (-1, ()), (4, ((0, 1, 0),)), (4, ((0, 1, 100),)), (4, ((0, 1, -1),)),
                           (4, ((0, 0, 1),)), (4, ((0, 5, 1),)), (4, ((-1, 2, 1),)), (4, ((2, 1, 1),)),
                           (4, ((0, 2, 1), (0, 2, 1))), (4, ((0, 2, 1), (0, 2, 2))), (4, ((0, 3, 1), (0, 2, 1))),
                           (4, ((1, 2, 1), (0, 4, 1))), (4, ((0, 2, 1), (0, 3, 100)))):
            with self.assertRaises(NotAllowed, msg=(n, weights)):
                check_weights(n, weights)

    def test_examples(self):
        weights = ((0, 4, 2), (1, 3, 5))
        self.assertEqual((total_of(4, ((1, 3),), weights), best_stock(4, 1, weights)), (11, (11, ((1, 3),))))

    def test_totals(self):
        rng = random.Random(302)
        for _ in range(200):
            n = rng.randint(1, 9)
            stock = random_slices(rng, n, rng.choice((0.1, 0.5)), 2)
            weights = random_weights(rng, n, rng.choice((0.2, 1)))
            self.assertEqual(total_of(n, stock, weights), slow_total(n, stock, weights))
        self.assertEqual(total_of(60, (), ((0, 60, 99),)), 5940)
        self.assertEqual(total_of(60, ((0, 60),), ((0, 60, 99),)), 99)
        self.assertEqual(total_of(1, (), ()), 0)

    def test_best_by_definition(self):
        rng = random.Random(303)
        for _ in range(60):
            n, room = rng.choice(((1, 0), (1, 3), (2, 1), (3, 2), (3, 9), (4, 0), (4, 1), (4, 2), (4, 6), (4, 7), (5, 2),
                                  (6, 1), (7, 1)))
            weights = random_weights(rng, n, rng.choice((0.2, 0.6, 1)))
            wanted = slow_best(n, room, weights)
            self.assertEqual(best_stock(n, room, weights), wanted, (n, room, weights))
            self.assertIsNone(check_stock(n, wanted[1]))
            self.assertEqual(total_of(n, wanted[1], weights), wanted[0])

    def test_first_of_the_best(self):
        # Nothing weighs: no slice is stored. All slices help the same: the first one is stored.
        self.assertEqual(best_stock(5, 3, ()), (0, ()))
        self.assertEqual(best_stock(3, 1, ((0, 3, 7),)), (7, ((0, 3),)))
        self.assertEqual(best_stock(3, 1, ((0, 2, 7), (1, 3, 7))), (21, ((0, 2),)))
        self.assertEqual(best_stock(3, 2, ((0, 3, 1),)), (1, ((0, 3),)))

    def test_room(self):
        for room in (-1, -100):
            for n in (3, 60):
                with self.assertRaises(NotAllowed):
                    best_stock(n, room, ((0, 1, 1),))
        # With more room than there are slices, all of them are tried: 64 stocks for 4 letters, 1024 for 5.
        self.assertEqual(best_stock(4, 100, ((0, 4, 1), (1, 3, 1))), (2, ((0, 4), (1, 3))))
        self.assertEqual(best_stock(5, 10 ** 9, ((0, 5, 1),)), (1, ((0, 5),)))
        self.assertEqual(best_stock(1, 5, ((0, 1, 3),)), (3, ()))

    def test_too_many_stocks(self):
        # 15 slices make 1941 stocks of at most 4 of them, 4944 of at most 5; no n and room make just 2000.
        self.assertEqual(best_stock(6, 4, ((0, 6, 5), (1, 5, 5), (2, 4, 1), (0, 2, 1))),
                         slow_best(6, 4, ((0, 6, 5), (1, 5, 5), (2, 4, 1), (0, 2, 1))))
        self.assertEqual(best_stock(60, 1, ((0, 60, 2), (0, 59, 1))), (5, ((0, 59),)))
        self.assertEqual(best_stock(11, 2, ((0, 11, 1), (1, 3, 1))), (2, ((0, 11), (1, 3))))
        for n, room in ((6, 5), (6, 15), (7, 4), (12, 2), (60, 2), (60, 1770)):
            with self.assertRaises(TooLarge, msg=(n, room)):
                best_stock(n, room, ((0, 1, 1),))

    def test_more_slices_never_cost_more(self):
        rng = random.Random(304)
        for _ in range(20):
            weights = random_weights(rng, 5, 0.7)
            totals = [best_stock(5, room, weights)[0] for room in range(5)]
            self.assertEqual(totals, sorted(totals, reverse=True))
            self.assertEqual(totals[0], total_of(5, (), weights))
            for room in range(5):
                self.assertIsNone(open_slice(5, 6, all_slices(5), best_stock(5, room, weights)[1]))


if __name__ == "__main__":
    unittest.main()
