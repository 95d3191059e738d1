"""Tests of scarp.index: [4.1] to [4.3]."""

import random
import unittest

from scarp.bounds import bound_of
from scarp.builds import split_of
from scarp.errors import NotAllowed
from scarp.index import Index
from scarp.shortfalls import split_with
from scarp.splits import height_of
from tests.samples import (BRANDT, DROP, LEFT_ZERO, RIGHT_ZERO, THREE_ROOMS, TURN, all_splits, fixed_tables, logs_up_to,
                           power_table, random_log, random_tables, slow_classes, slow_is_split, slow_value)


def slow_pieces(split, x, y):
    """The places of the pieces of a slice, by the words of the document."""
    def right(place):
        return next((z for z in range(place + 1, len(split)) if split[z] < split[place]), None)

    def left(place):
        return next((z for z in range(place - 1, -1, -1) if split[z] < split[place]), None)

    way, back = [x], [y]
    while right(way[-1]) is not None and right(way[-1]) <= y:
        way.append(right(way[-1]))
    while left(back[-1]) is not None and left(back[-1]) >= x:
        back.append(left(back[-1]))
    places = way + back[::-1]
    return [(first, last) for first, last in zip(places, places[1:]) if first != last]


class IndexTest(unittest.TestCase):
    def test_example(self):
        index = Index(TURN, "good", ("b", "a", "a", "b"), (1, 1, 2, 1, 1))
        self.assertEqual((index.value(0, 4), index.value(1, 2), index.value(3, 3)), (1, 0, -1))
        self.assertEqual(index.pieces(2, 4), [(2, 3, 0), (3, 4, 1)])
        told = (index.lower_left(2), index.lower_right(2), index.class_at(0), index.step_at(1))
        self.assertEqual(told, (1, 3, [0, 1, 3, 4], 1))

    def test_wrong_splits(self):
        wrong = [(TURN, "good", ("a",), (1, 1)), (TURN, "good", ("a",), (1,)), (TURN, "good", ("a",), (1, 2, 3)),
                 (TURN, "good", ("a",), (0, 1)), (TURN, "good", ("a",), (1, 41)), (TURN, "good", (), ()),
                 (LEFT_ZERO, "good", ("a", "b"), (1, 1, 1)), (RIGHT_ZERO, "forward", ("a", "b"), (1, 1, 1)),
                 (TURN, "forward", ("a", "a"), (1, 1, 1))]
        for table, kind, log, split in wrong:
            with self.assertRaises(NotAllowed):
                Index(table, kind, log, split)
        self.assertEqual(Index(LEFT_ZERO, "forward", ("a", "b"), (1, 1, 1)).value(0, 2), 0)
        self.assertEqual(Index(TURN, "good", ("a",), (1, 40)).value(0, 1), 0)

    def test_wrong_places(self):
        index = Index(TURN, "good", ("b", "a", "a", "b"), (1, 1, 2, 1, 1))
        for first, last in ((-1, 2), (0, 5), (5, 5), (-1, -1), (3, 2), (4, 0), (-2, -1), (5, 6), (9, 0), (0, 401)):
            for ask in (index.value, index.pieces):
                with self.assertRaises(NotAllowed, msg=(first, last)):
                    ask(first, last)
        for place in (-1, 5, -5, 400):
            for ask in (index.lower_right, index.lower_left, index.class_at, index.step_at):
                with self.assertRaises(NotAllowed, msg=place):
                    ask(place)

    def test_empty_log(self):
        index = Index(BRANDT, "good", (), (3,))
        self.assertEqual((index.value(0, 0), index.pieces(0, 0)), (-1, []))
        told = (index.lower_right(0), index.lower_left(0), index.class_at(0), index.step_at(0))
        self.assertEqual(told, (-1, -1, [0], -1))
        with self.assertRaises(NotAllowed):
            index.value(0, 1)

    def test_new_lists(self):
        index = Index(TURN, "good", ("b", "a", "a", "b"), (1, 1, 2, 1, 1))
        index.class_at(0).clear()
        index.pieces(0, 4).clear()
        self.assertEqual(index.class_at(0), [0, 1, 3, 4])
        self.assertEqual(index.pieces(0, 4), [(0, 4, 1)])

    def places_hold(self, index, table, log, split):
        for members in slow_classes(split):
            for at, place in enumerate(members):
                self.assertEqual(index.class_at(place), members)
                later = members[at + 1:at + 2]
                step = slow_value(table, log[place:later[0]]) if later else -1
                self.assertEqual(index.step_at(place), step)
        for place, level in enumerate(split):
            behind = [z for z in range(place + 1, len(split)) if split[z] < level]
            ahead = [z for z in range(place) if split[z] < level]
            self.assertEqual(index.lower_right(place), behind[0] if behind else -1)
            self.assertEqual(index.lower_left(place), ahead[-1] if ahead else -1)

    def slice_holds(self, index, table, log, split, x, y):
        pieces = index.pieces(x, y)
        self.assertEqual([(first, last) for first, last, _ in pieces], slow_pieces(split, x, y))
        self.assertLessEqual(len(pieces), 2 * height_of(split) - 1)
        at, product = x, -1
        for first, last, value in pieces:
            self.assertEqual(first, at)
            self.assertLess(first, last)
            self.assertEqual(value, slow_value(table, log[first:last]))
            at, product = last, value if product == -1 else table[2][product][value]
        self.assertEqual(at, y)
        self.assertEqual(product, slow_value(table, log[x:y]))
        self.assertEqual(index.value(x, y), product)

    def all_hold(self, table, kind, log, split):
        index = Index(table, kind, log, split)
        self.places_hold(index, table, log, split)
        for x in range(len(log) + 1):
            for y in range(x, len(log) + 1):
                self.slice_holds(index, table, log, split, x, y)

    def test_all_small_splits(self):
        for table in (DROP, LEFT_ZERO, BRANDT, TURN, power_table(1, 2)):
            for log in logs_up_to(table[0], 3) + [table[0][:1] * 4, (table[0] * 5)[:5]]:
                for split in all_splits(len(log), 3):
                    for kind in ("good", "forward"):
                        if slow_is_split(table, kind, log, split):
                            self.all_hold(table, kind, log, split)

    def test_built_splits(self):
        rng = random.Random(71)
        for table in fixed_tables() + random_tables(72, 80, 40):
            for many in (1, rng.randint(2, 30)):
                log = random_log(rng, table, many)
                split = split_of(table, log)
                self.assertLessEqual(height_of(split), bound_of(table)[0])
                self.all_hold(table, "good", log, split)

    def test_forward_splits(self):
        rng = random.Random(73)
        done = 0
        for table in [LEFT_ZERO] + random_tables(74, 80, 12):
            log = random_log(rng, table, 20)
            split = split_with(table, "forward", log, 3)
            if split is not None:
                self.all_hold(table, "forward", log, split)
                done += not slow_is_split(table, "good", log, split)
        self.assertGreater(done, 5)

    def test_long_logs(self):
        rng = random.Random(75)
        for table in (LEFT_ZERO, BRANDT, THREE_ROOMS, power_table(0, 40)):
            log = random_log(rng, table, 400)
            split = split_of(table, log)
            self.assertLessEqual(height_of(split), bound_of(table)[0])
            index = Index(table, "good", log, split)
            self.places_hold(index, table, log, split)
            slices = [(0, 400), (0, 0), (400, 400), (0, 1), (399, 400), (1, 399)]
            slices += [tuple(sorted((rng.randint(0, 400), rng.randint(0, 400)))) for _ in range(200)]
            for x, y in slices:
                self.slice_holds(index, table, log, split, x, y)
