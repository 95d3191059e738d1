"""Tests of scarp.shelf: [9.8]."""

import random
import unittest

from scarp.errors import NotAllowed
from scarp.shelf import Shelf
from scarp.stocks import all_slices, row_of
from tests.samples import BRANDT, LEFT_ZERO, THREE_ROOMS, TURN, random_log, random_tables, slow_value


def slow_row(stock, first, last):
    """The places of a row, with letters of their own behind the place 60."""
    if first == last:
        return (first,)
    if first >= 60:
        return tuple(range(first, last + 1))
    inner = row_of(60, stock, (first, min(last, 60)))
    return inner + tuple(range(61, last + 1))


def slow_cost(stock, span):
    """The products that the value of a slice of the stock takes."""
    rest = tuple(other for other in stock if other != span)
    return len(slow_row(rest, *span)) - 2


def random_stock(rng, n, share):
    """Some of the slices with at least two letters."""
    return tuple((x, y) for x in range(n) for y in range(x + 2, n + 1) if rng.random() < share)


class ShelfTest(unittest.TestCase):
    def test_examples(self):
        shelf = Shelf(TURN, ("b", "a", "a", "b"), ((0, 3), (1, 4)))
        self.assertEqual((shelf.products(), shelf.value(0, 4), shelf.products()), (4, 1, 5))
        self.assertEqual(shelf.pieces(0, 4), [(0, 1, 1), (1, 4, 1)])
        self.assertEqual((shelf.change(0, "a"), shelf.value(0, 3), shelf.products()), (2, 0, 7))

    def told(self, table, log, stock, shelf, made):
        """All slices of a shelf, asked for their pieces and values; the number of products behind that."""
        for first in range(len(log) + 1):
            for last in range(first, len(log) + 1):
                row = slow_row(stock, first, last)
                pieces = [(x, y, slow_value(table, log[x:y])) for x, y in zip(row, row[1:])]
                self.assertEqual(shelf.pieces(first, last), pieces)
                self.assertEqual(shelf.products(), made)
                self.assertEqual(shelf.value(first, last), slow_value(table, log[first:last]))
                made += max(0, len(pieces) - 1)
                self.assertEqual(shelf.products(), made)
        return made

    def test_by_definition(self):
        rng = random.Random(311)
        for table in [TURN, BRANDT, LEFT_ZERO, THREE_ROOMS] + random_tables(312, 8, 20):
            for _ in range(4):
                n = rng.randint(1, 9)
                log = random_log(rng, table, n)
                stock = random_stock(rng, n, rng.choice((0, 0.2, 0.6, 1)))
                shelf = Shelf(table, log, stock)
                made = sum(slow_cost(stock, span) for span in stock)
                self.assertEqual(shelf.products(), made)
                made = self.told(table, log, stock, shelf, made)
                for _ in range(5):
                    place, letter = rng.randrange(n), rng.choice(table[0])
                    log = log[:place] + (letter,) + log[place + 1:]
                    cost = sum(slow_cost(stock, (x, y)) for x, y in stock if x <= place < y)
                    self.assertEqual(shelf.change(place, letter), cost)
                    made += cost
                    self.assertEqual((shelf.log(), shelf.stock(), shelf.products()), (log, stock, made))
                made = self.told(table, log, stock, shelf, made)

    def test_same_letter_again(self):
        # A letter that is put again is worked out as any other one.
        shelf = Shelf(TURN, ("b", "a", "a", "b"), ((0, 3), (1, 4)))
        self.assertEqual((shelf.change(1, "a"), shelf.products(), shelf.log()), (4, 8, ("b", "a", "a", "b")))
        self.assertEqual((shelf.change(3, "b"), shelf.products()), (2, 10))
        self.assertEqual(shelf.value(0, 4), 1)

    def test_shorter_slices_are_stored_first(self):
        # Each longer slice is made of the one that is a letter shorter: one product each.
        stock = tuple((0, y) for y in range(2, 61))
        shelf = Shelf(TURN, ("a",) * 60, stock)
        self.assertEqual(shelf.products(), 59)
        self.assertEqual((shelf.value(0, 60), shelf.products(), shelf.value(1, 60), shelf.products()), (1, 59, 0, 117))
        self.assertEqual(shelf.change(59, "b"), 1)
        self.assertEqual(shelf.change(0, "b"), 59)

    def test_lengths(self):
        rng = random.Random(313)
        for n in (1, 2, 59, 60, 61, 62, 400):
            log = random_log(rng, BRANDT, n)
            stock = random_stock(rng, min(n, 60), 0.1)
            shelf = Shelf(BRANDT, log, stock)
            made = sum(slow_cost(stock, span) for span in stock)
            self.assertEqual((shelf.products(), shelf.log(), shelf.stock()), (made, log, stock))
            for _ in range(60):
                first = rng.randint(0, n)
                last = rng.randint(first, n)
                row = slow_row(stock, first, last)
                self.assertEqual([piece[:2] for piece in shelf.pieces(first, last)], list(zip(row, row[1:])))
                self.assertEqual(shelf.value(first, last), slow_value(BRANDT, log[first:last]))
                made += max(0, len(row) - 2)
                self.assertEqual(shelf.products(), made)

    def test_behind_place_sixty(self):
        shelf = Shelf(TURN, ("a",) * 63, ((0, 60),))
        self.assertEqual(shelf.pieces(0, 63), [(0, 60, 1), (60, 61, 0), (61, 62, 0), (62, 63, 0)])
        self.assertEqual(shelf.pieces(60, 60), [])
        self.assertEqual(shelf.pieces(61, 63), [(61, 62, 0), (62, 63, 0)])
        self.assertEqual((shelf.change(60, "b"), shelf.change(62, "b"), shelf.change(59, "b")), (0, 0, 59))

    def test_no_shelves(self):
        for log, stock in (((), ()), ((), ((0, 2),)), (("a",), ((0, 1),)), (("a",), ((0, 2),)),
                           (("a", "b"), ((0, 3),)), (("a",) * 60, ((0, 61),)), (("a",) * 61, ((0, 61),)),
                           (("a",) * 400, ((0, 61),)), (("a",) * 400, ((60, 62),)), (("a",) * 5, ((0, 2), (0, 2))),
                           (("a",) * 5, ((1, 3), (0, 2))), (("a",) * 5, ((-1, 2),)), (("a",) * 5, ((2, 1),)),
                           (("a",) * 60, tuple((x, y) for x in range(60) for y in range(x + 2, 61))[:601])):
            with self.assertRaises(NotAllowed, msg=(len(log), stock)):
                Shelf(TURN, log, stock)
        Shelf(TURN, ("a",) * 60, tuple((x, y) for x in range(60) for y in range(x + 2, 61))[:600])

    def test_no_slices(self):
        shelf = Shelf(TURN, ("a", "b", "a"), ((0, 2),))
        for first, last in ((-1, 2), (0, 4), (2, 1), (4, 4), (-1, -1), (3, 5)):
            for ask in (shelf.value, shelf.pieces):
                with self.assertRaises(NotAllowed):
                    ask(first, last)
        self.assertEqual((shelf.products(), shelf.value(3, 3), shelf.value(0, 0), shelf.products()), (1, -1, -1, 1))

    def test_no_changes(self):
        shelf = Shelf(TURN, ("a", "b", "a"), ((0, 2),))
        for place, letter in ((-1, "a"), (3, "a"), (4, "b"), (0, "c"), (1, ""), (9, "z")):
            with self.assertRaises(NotAllowed):
                shelf.change(place, letter)
        self.assertEqual((shelf.log(), shelf.products(), shelf.value(0, 3)), (("a", "b", "a"), 1, 1))

    def test_pieces_are_new(self):
        shelf = Shelf(TURN, ("a", "b", "a"), all_slices(3)[1:3])
        shelf.pieces(0, 3).clear()
        self.assertEqual(shelf.pieces(0, 3), [(0, 3, 1)])


if __name__ == "__main__":
    unittest.main()
