"""Tests of scarp.bounds: [2.6]."""

import unittest

from scarp.bounds import bound_of, judge_bound, own_number, weights_of
from scarp.errors import BadPaper, NotAllowed
from scarp.green import above, both_class_of, group_class_of
from tests.samples import (BRANDT, DROP, LEFT_ZERO, THREE_ROOMS, TRIVIAL, TURN, fixed_tables, power_table,
                           random_tables)


def slow_own(table, element):
    """The own number of an element, by the words of the document."""
    return max(1, sum(group_class_of(table, other) != () for other in both_class_of(table, element)))


def slow_weight(table, element):
    """The greatest sum of a chain that ends at an element."""
    higher = [other for other in range(len(table[2])) if above(table, other, element)]
    return slow_own(table, element) + max([slow_weight(table, other) for other in higher], default=0)


class BoundTest(unittest.TestCase):
    def test_example(self):
        self.assertEqual((bound_of(BRANDT)[0], weights_of(BRANDT)), (3, (2, 2, 3, 2, 2)))
        self.assertEqual(own_number(BRANDT, 0), 2)
        self.assertIsNone(judge_bound(BRANDT, 3, (4, 2), (2, 2, 3, 2, 2)))
        with self.assertRaises(BadPaper):
            judge_bound(BRANDT, 3, (2,), (2, 2, 3, 2, 2))

    def test_small_tables(self):
        wanted = [(TRIVIAL, 1), (DROP, 2), (LEFT_ZERO, 2), (TURN, 2), (power_table(2, 3), 5), (power_table(0, 40), 40),
                  (power_table(39, 1), 40), (THREE_ROOMS, 6 + 12 + 3)]
        for table, number in wanted:
            self.assertEqual(bound_of(table)[0], number)
        self.assertEqual([own_number(power_table(2, 3), element) for element in range(5)], [1, 1, 3, 3, 3])
        self.assertEqual(weights_of(power_table(2, 3)), (1, 2, 5, 5, 5))
        self.assertEqual([own_number(BRANDT, element) for element in range(5)], [2, 2, 1, 2, 2])

    def test_by_definition(self):
        for table in [BRANDT, DROP, power_table(3, 2), power_table(0, 7)] + random_tables(21, 40, 9):
            every = range(len(table[2]))
            self.assertEqual([own_number(table, e) for e in every], [slow_own(table, e) for e in every])
            self.assertEqual(weights_of(table), tuple(slow_weight(table, e) for e in every))
            self.assertEqual(bound_of(table)[0], max(weights_of(table)))

    def test_paper(self):
        for table in fixed_tables() + random_tables(22, 60, 40):
            number, chain = bound_of(table)
            self.assertIsInstance(chain, tuple)
            self.assertIsNone(judge_bound(table, number, chain, weights_of(table)))
            self.assertLessEqual(number, 40)


class JudgeTest(unittest.TestCase):
    weights = (2, 2, 3, 2, 2)

    def refuse(self, error, *papers):
        for number, chain, weights in papers:
            with self.assertRaises(error, msg=(number, chain, weights)):
                judge_bound(BRANDT, number, chain, weights)

    def test_right(self):
        for chain in ((0, 2), (1, 2), (3, 2), (4, 2)):
            self.assertIsNone(judge_bound(BRANDT, 3, chain, self.weights))
        # The weights need not be the least ones, as long as the greatest one is the number.
        self.assertIsNone(judge_bound(DROP, 2, (0, 1), (1, 2)))
        table = (("a", "b"), (0, 1), ((1, 1), (1, 1)))
        self.assertIsNone(judge_bound(table, 2, (0, 1), (1, 2)))

    def test_greater_weights(self):
        # Two elements a and b, all products a third one: a with a weight of 2 asks for 3 below it.
        table = (("a", "b"), (0, 1), ((2, 2, 2), (2, 2, 2), (2, 2, 2)))
        self.assertIsNone(judge_bound(table, 2, (0, 2), (1, 1, 2)))
        with self.assertRaises(BadPaper):
            judge_bound(table, 2, (0, 2), (2, 1, 2))
        with self.assertRaises(BadPaper):
            judge_bound(table, 3, (0, 2), (2, 1, 3))
        # The weights alone would do, but no chain has this sum.
        with self.assertRaises(BadPaper):
            judge_bound(DROP, 3, (0, 1), (1, 3))

    def test_weights_that_are_not_least(self):
        # Two classes side by side, of which only one is in the greatest chain.
        table = (("a", "b"), (0, 1), ((2, 3, 4, 3, 4), (3, 3, 3, 3, 3), (4, 3, 4, 3, 4), (3, 3, 3, 3, 3), (4, 3, 4, 3, 4)))
        least = weights_of(table)
        number, chain = bound_of(table)
        self.assertEqual((least, number), ((1, 1, 2, 4, 3), 4))
        self.assertIsNone(judge_bound(table, number, chain, (1, 3, 2, 4, 3)))
        self.assertIsNone(judge_bound(table, number, chain, (1, 2, 2, 4, 3)))
        for weights in ((1, 4, 2, 4, 3), (1, 0, 2, 4, 3), (1, 1, 2, 4, 2), (1, 1, 2, 5, 3), (2, 1, 2, 4, 3)):
            with self.assertRaises(BadPaper):
                judge_bound(table, number, chain, weights)

    def test_not_allowed(self):
        self.refuse(NotAllowed, (3, (4, 5), self.weights), (3, (-1,), self.weights), (3, (4, 2), ()),
                    (3, (4, 2), (2, 2, 3, 2)), (3, (4, 2), (2, 2, 3, 2, 2, 2)), (9, (2, 0, 7), (0,) * 5),
                    (9, (), (0,) * 4))

    def test_bad_chains(self):
        self.refuse(BadPaper, (3, (), self.weights), (3, (2, 4), self.weights), (3, (4,), self.weights),
                    (0, (), self.weights), (3, (4, 4, 2), self.weights), (5, (4, 3, 2), self.weights),
                    (3, (2, 2, 2), self.weights), (2, (4,), self.weights), (4, (4, 2), self.weights))

    def test_bad_weights(self):
        self.refuse(BadPaper, (3, (4, 2), (1, 2, 3, 2, 2)), (3, (4, 2), (2, 2, 2, 2, 2)), (3, (4, 2), (3, 2, 3, 2, 2)),
                    (3, (4, 2), (3, 2, 4, 2, 2)), (3, (4, 2), (2, 2, 4, 2, 2)), (3, (4, 2), (0,) * 5),
                    (3, (4, 2), (2, 2, 3, 2, 1)))
