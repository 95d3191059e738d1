"""Tests of scarp.ends: [4.5]."""

import itertools
import random
import unittest

from scarp.ends import (check_wish, count_slices, cutting, first_end, first_start, last_end, last_start, longest,
                        shortest)
from scarp.errors import NotAllowed
from scarp.joint import joint_table
from tests.samples import BRANDT, DROP, TRIVIAL, TURN, fixed_tables, random_log, random_tables, slow_value

ODD = (("a", "b"), ((1, 0), (0, 1)), (1,))
SEEN = (("a", "b"), ((0, 1), (1, 1)), (1,))
JOINT = joint_table(("a", "b"), [ODD, SEEN])[0]


def slow_fitting(table, log, wish):
    """All slices that fit, by the words of the document."""
    places = range(len(log) + 1)
    return [(x, y) for x in places for y in places if x <= y and slow_value(table, log[x:y]) in wish]


def slow_cutting(table, log, wish):
    """The cutting, by all lists of places."""
    fitting = slow_fitting(table, log, wish)
    inner = range(1, len(log))
    if not log:
        return [0]
    for many in range(len(log)):
        for chosen in itertools.combinations(inner, many):
            places = [0, *chosen, len(log)]
            if all(pair in fitting for pair in zip(places, places[1:])):
                return places
    return None


class WishTest(unittest.TestCase):
    def test_wishes(self):
        for wish in ((), (-1,), (0,), (-1, 0, 1, 2, 3, 4), (4,), (1, 3), (-1, 4)):
            self.assertIsNone(check_wish(BRANDT, wish))
        for wish in ((-2,), (5,), (0, 0), (-1, -1), (1, 0), (0, -1), (0, 1, 5), (-2, 0), (0, 2, 1), (3, 4, 4)):
            with self.assertRaises(NotAllowed, msg=wish):
                check_wish(BRANDT, wish)
        self.assertIsNone(check_wish(TRIVIAL, (-1, 0)))
        with self.assertRaises(NotAllowed):
            check_wish(TRIVIAL, (1,))


class EndsTest(unittest.TestCase):
    def holds(self, table, log, wish):
        fitting = slow_fitting(table, log, wish)
        for place in range(len(log) + 1):
            ends = [y for x, y in fitting if x == place]
            begins = [x for x, y in fitting if y == place]
            self.assertEqual(first_end(table, log, wish, place), min(ends, default=-1))
            self.assertEqual(last_end(table, log, wish, place), max(ends, default=-1))
            self.assertEqual(first_start(table, log, wish, place), min(begins, default=-1))
            self.assertEqual(last_start(table, log, wish, place), max(begins, default=-1))
        self.assertEqual(count_slices(table, log, wish), len(fitting))
        self.assertEqual(shortest(table, log, wish), min(fitting, key=lambda s: (s[1] - s[0], s[0]), default=None))
        self.assertEqual(longest(table, log, wish), min(fitting, key=lambda s: (s[0] - s[1], s[0]), default=None))

    def test_examples(self):
        log = ("b", "a", "b", "a", "a")
        told = (first_end(JOINT, log, (3,), 0), first_end(JOINT, log, (3,), 3), shortest(JOINT, log, (3,)))
        self.assertEqual(told, (2, -1, (0, 2)))
        told = (count_slices(JOINT, log, (0,)), cutting(JOINT, log, (0, 1, 2)), cutting(JOINT, log, (0,)))
        self.assertEqual(told, (3, [0, 4, 5], None))

    def test_by_definition(self):
        rng = random.Random(111)
        for table in [JOINT] + fixed_tables() + random_tables(112, 40, 20):
            values = range(-1, len(table[2]))
            for _ in range(6):
                log = random_log(rng, table, rng.randint(0, 11))
                wish = tuple(value for value in values if rng.random() < rng.choice((0.1, 0.3, 0.6)))
                self.holds(table, log, wish)
                self.assertEqual(cutting(table, log, wish), slow_cutting(table, log, wish))

    def test_empty_log(self):
        for wish in ((), (-1,), (0, 1)):
            self.holds(TURN, (), wish)
            self.assertEqual(cutting(TURN, (), wish), [0])
        self.assertEqual((shortest(TURN, (), (-1,)), shortest(TURN, (), ())), ((0, 0), None))

    def test_one_letter(self):
        for wish in ((), (-1,), (0,), (-1, 0), (-1, 1), (0, 1)):
            self.holds(TURN, ("a",), wish)
        self.assertEqual(cutting(TURN, ("a",), (-1, 0)), [0, 1])
        self.assertIsNone(cutting(TURN, ("a",), (-1, 1)))

    def test_empty_wish(self):
        self.holds(BRANDT, ("a", "b", "a"), ())
        self.assertIsNone(cutting(BRANDT, ("a", "b", "a"), ()))

    def test_empty_slices(self):
        # A slice without letters fits a wish that has -1, but never stands in a cutting.
        log = ("a", "b", "a")
        self.assertEqual((first_end(TURN, log, (-1,), 2), last_start(TURN, log, (-1, 1), 2)), (2, 2))
        self.assertEqual((count_slices(TURN, log, (-1,)), longest(TURN, log, (-1,))), (4, (0, 0)))
        self.assertIsNone(cutting(TURN, log, (-1,)))

    def test_wrong_places(self):
        for place in (-1, 4, -4, 400):
            for ask in (first_end, last_end, first_start, last_start):
                with self.assertRaises(NotAllowed, msg=place):
                    ask(TURN, ("a", "b", "a"), (0,), place)
                if place != 0:
                    with self.assertRaises(NotAllowed):
                        ask(TURN, (), (-1,), place)

    def test_first_of_several_cuttings(self):
        # Each slice with an even number of `a`, and one of at least one letter.
        self.assertEqual(cutting(TURN, ("a",) * 6, (1,)), [0, 6])
        self.assertEqual(cutting(TURN, ("a",) * 4, (0,)), [0, 1, 4])
        self.assertEqual(cutting(DROP, ("a",) * 5, (0,)), [0, 1, 2, 3, 4, 5])

    def test_long_logs(self):
        rng = random.Random(113)
        for table in (JOINT, BRANDT):
            log = random_log(rng, table, 400)
            values = {(x, y): None for x in range(401) for y in range(x, 401)}
            for x in range(401):
                value = -1
                values[(x, x)] = -1
                for y in range(x, 400):
                    element = table[1][table[0].index(log[y])]
                    value = element if value == -1 else table[2][value][element]
                    values[(x, y + 1)] = value
            wish = (0, 3)
            fitting = [pair for pair in values if values[pair] in wish]
            self.assertEqual(count_slices(table, log, wish), len(fitting))
            self.assertEqual(shortest(table, log, wish), min(fitting, key=lambda s: (s[1] - s[0], s[0])))
            self.assertEqual(longest(table, log, wish), min(fitting, key=lambda s: (s[0] - s[1], s[0])))
        self.assertEqual(cutting(DROP, ("a",) * 400, (0,)), list(range(401)))
        self.assertEqual(cutting(DROP, ("a",) * 400, (1,)), [0, 400])

    def test_new_lists(self):
        first = cutting(TURN, ("a", "a"), (0,))
        first.clear()
        self.assertEqual(cutting(TURN, ("a", "a"), (0,)), [0, 1, 2])


if __name__ == "__main__":
    unittest.main()
