"""Tests of scarp.green: [2.3] to [2.5]."""

import unittest

from scarp.green import (above, both_class_of, both_classes, group_class_of, groups, idempotents, left_class_of,
                         left_classes, right_class_of, right_classes, unit_of)
from tests.samples import (BRANDT, DROP, FORTY, LEFT_ZERO, RIGHT_ZERO, THREE_ROOMS, TRIVIAL, TURN, fixed_tables,
                           power_table, random_tables)
from scarp.tables import table_of


def slow_multiples(table, element):
    """The right, left and all multiples of an element, as sets."""
    products = table[2]
    every = range(len(products))
    rights = {element} | {products[element][e] for e in every}
    lefts = {element} | {products[e][element] for e in every}
    alls = set(lefts)
    for left in lefts:
        alls |= {products[left][e] for e in every}
    return rights, lefts, alls


def slow_class(multiples, element):
    """The elements that are multiples of this one, and it of them."""
    return tuple(sorted(e for e in multiples[element] if element in multiples[e]))


class ClassesTest(unittest.TestCase):
    def test_example(self):
        self.assertEqual((both_classes(BRANDT), idempotents(BRANDT)), ([(0, 1, 3, 4), (2,)], [2, 3, 4]))
        self.assertEqual(right_class_of(BRANDT, 0), (0, 3))
        self.assertEqual((group_class_of(BRANDT, 0), group_class_of(BRANDT, 3)), ((), (3,)))
        self.assertIs(above(BRANDT, 0, 2), True)

    def test_small_tables(self):
        self.assertEqual(right_classes(LEFT_ZERO), [(0,), (1,)])
        self.assertEqual(left_classes(LEFT_ZERO), [(0, 1)])
        self.assertEqual(right_classes(RIGHT_ZERO), [(0, 1)])
        self.assertEqual(left_classes(RIGHT_ZERO), [(0,), (1,)])
        self.assertEqual((left_class_of(BRANDT, 0), left_class_of(BRANDT, 2)), ((0, 4), (2,)))
        self.assertEqual((right_classes(BRANDT), left_classes(BRANDT)), ([(0, 3), (1, 4), (2,)], [(0, 4), (1, 3), (2,)]))
        for table in (LEFT_ZERO, RIGHT_ZERO, TURN):
            self.assertEqual(both_classes(table), [(0, 1)])
        self.assertEqual((both_classes(DROP), both_classes(TRIVIAL)), ([(0,), (1,)], [(0,)]))
        self.assertEqual(both_classes(power_table(2, 3)), [(0,), (1,), (2, 3, 4)])
        self.assertEqual(both_classes(power_table(39, 1)), [(element,) for element in range(40)])
        self.assertEqual(both_classes(power_table(0, 40)), [tuple(range(40))])
        self.assertEqual([len(members) for members in both_classes(THREE_ROOMS)], [6, 18, 3])

    def test_by_definition(self):
        for table in fixed_tables() + random_tables(11, 40, 20):
            every = range(len(table[2]))
            multiples = [slow_multiples(table, element) for element in every]
            kinds = ((right_class_of, right_classes), (left_class_of, left_classes), (both_class_of, both_classes))
            for which, (class_of, classes) in enumerate(kinds):
                sets = [row[which] for row in multiples]
                wanted = [slow_class(sets, element) for element in every]
                self.assertEqual([class_of(table, element) for element in every], wanted)
                self.assertEqual(classes(table), sorted(set(wanted)))
            for first in every:
                for second in every:
                    wanted = second in multiples[first][2] and first not in multiples[second][2]
                    self.assertIs(above(table, first, second), wanted)

    def test_theorem(self):
        for table in (BRANDT, THREE_ROOMS, LEFT_ZERO, power_table(2, 3)):
            units = idempotents(table)
            for members in both_classes(table):
                for x in members:
                    for y in members:
                        product = table[2][x][y]
                        shared = [e for e in units if e in left_class_of(table, x) and e in right_class_of(table, y)]
                        self.assertEqual(product in members, bool(shared))
                        if shared:
                            self.assertIn(product, right_class_of(table, x))
                            self.assertIn(product, left_class_of(table, y))


class GroupsTest(unittest.TestCase):
    def test_small_tables(self):
        self.assertEqual(groups(BRANDT), [(2, (2,)), (3, (3,)), (4, (4,))])
        self.assertEqual((groups(TURN), groups(DROP), groups(TRIVIAL)), ([(1, (0, 1))], [(1, (1,))], [(0, (0,))]))
        # After two letters the values come again by three: a group of three elements.
        table = power_table(2, 3)
        self.assertEqual(groups(table), [(2, (2, 3, 4))])
        self.assertEqual([group_class_of(table, element) for element in range(5)], [(), ()] + [(2, 3, 4)] * 3)
        self.assertEqual([unit_of(table, element) for element in range(5)], [2] * 5)
        self.assertEqual(groups(power_table(0, 40)), [(39, tuple(range(40)))])
        self.assertEqual(groups(power_table(39, 1)), [(39, (39,))])
        self.assertEqual(sorted(len(group) for _, group in groups(THREE_ROOMS)), [1, 1, 1, 2, 2, 2, 2, 2, 2, 6])

    def test_by_definition(self):
        for table in fixed_tables() + random_tables(12, 40, 20):
            products = table[2]
            units = idempotents(table)
            self.assertEqual(units, [e for e in range(len(products)) if products[e][e] == e])
            found = []
            for element in range(len(products)):
                unit = unit_of(table, element)
                powers = [element]
                while products[powers[-1]][element] not in powers:
                    powers.append(products[powers[-1]][element])
                self.assertEqual([power for power in powers if power in units], [unit])
                near = right_class_of(table, unit), left_class_of(table, unit)
                group = tuple(e for e in range(len(products)) if e in near[0] and e in near[1])
                self.assertEqual(group_class_of(table, element), group if element in group else ())
                if unit == element:
                    found.append((unit, group))
            self.assertEqual(groups(table), found)

    def test_they_are_groups(self):
        for table in (THREE_ROOMS, table_of(FORTY), power_table(2, 3)):
            for unit, group in groups(table):
                for x in group:
                    self.assertEqual((table[2][x][unit], table[2][unit][x]), (x, x))
                    self.assertEqual(sorted(table[2][x][y] for y in group), list(group))

    def test_new_lists(self):
        for function in (right_classes, left_classes, both_classes, idempotents, groups):
            told = function(BRANDT)
            function(BRANDT).clear()
            self.assertEqual(function(BRANDT), told)
            self.assertTrue(told)
