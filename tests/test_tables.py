"""Tests of scarp.tables: [2.1] and [2.2]."""

import random
import unittest

from scarp import tables
from scarp.errors import NotAllowed, TooLarge
from scarp.machines import lets
from scarp.tables import check_table, least_logs, let_by, paired, table_of, times, value_of
from tests.samples import (BRANDT, DROP, FORTY, FORTY_ONE, LEFT_ZERO, THREE_ROOMS, TRIVIAL, TURN, fixed_tables,
                           logs_up_to, power_table, random_machine, random_tables, room_cycle, slow_value)

EVEN_A = (("a", "b"), ((1, 0), (0, 1)), (0,))
SEEN_A = (("a", "b"), ((0, 1), (1, 1)), (1,))


def ways(machine, log):
    """The rooms to which a log leads from each room."""
    rooms = list(range(len(machine[1])))
    for letter in log:
        rooms = [machine[1][room][machine[0].index(letter)] for room in rooms]
    return tuple(rooms)


class CheckTest(unittest.TestCase):
    def refuse(self, *wrong):
        for table in wrong:
            with self.assertRaises(NotAllowed, msg=table):
                check_table(table)

    def test_constant(self):
        self.assertEqual(tables.MAX_ELEMENTS, 40)

    def test_tables(self):
        for table in fixed_tables() + random_tables(1, 40, 40):
            self.assertIsNone(check_table(table))

    def test_number_of_elements(self):
        for many in (1, 2, 39, 40):
            self.assertIsNone(check_table(power_table(0, many)))
            self.assertIsNone(check_table(power_table(many - 1, 1)))
        self.refuse(power_table(0, 41), power_table(40, 1), power_table(0, 60), (("a",), (0,), ()), (("a",), (), ()))

    def test_letters(self):
        self.refuse(((), (), ((0,),)), (("a", "a"), (0, 0), ((0,),)), (("any",), (0,), ((0,),)),
                    (("a", "b", "c", "d", "e"), (0,) * 5, ((0,),)))
        self.assertIsNone(check_table((("a", "b", "c", "d"), (0,) * 4, ((0,),))))

    def test_shape(self):
        self.refuse((("a", "b"), (0,), ((0,),)), (("a",), (0, 0), ((0,),)), (("a",), (1,), ((0,),)),
                    (("a",), (-1,), ((0,),)), (("a",), (0,), ((0, 0),)), (("a",), (0,), ((),)), (("a",), (0,), ((1,),)),
                    (("a",), (0,), ((-1,),)), (("a",), (0,), ((1, 1), (1,))), (("a",), (0,), ((1, 1), (1, 2))),
                    (("a",), (0,), ((1, 1), (1, 1), (1, 1))))

    def test_associative(self):
        # (0 0) 1 is 1 1 = 0, but 0 (0 1) is 0 0 = 1.
        self.refuse((("a",), (0,), ((1, 0), (0, 0))))
        self.refuse((("a", "b"), (0, 1), ((1, 1), (0, 0))))
        wrong = [list(row) for row in BRANDT[2]]
        wrong[4][4] = 3
        self.refuse((BRANDT[0], BRANDT[1], tuple(tuple(row) for row in wrong)))

    def test_no_log(self):
        # The element 1 is the value of no log.
        self.refuse((("a",), (0,), ((0, 0), (0, 1))), (("a", "b"), (0, 0), ((0, 0), (1, 1))))

    def test_order(self):
        self.refuse((("a", "b"), (1, 0), LEFT_ZERO[2]), (("a",), (1,), ((0, 0), (0, 0))))
        # The elements 2 and 3 of the sample are taken for one another.
        swap = (0, 1, 3, 2, 4)
        rows = tuple(tuple(swap[BRANDT[2][swap[x]][swap[y]]] for y in range(5)) for x in range(5))
        self.refuse((BRANDT[0], BRANDT[1], rows))


class ValueTest(unittest.TestCase):
    def test_times(self):
        self.assertEqual(times(BRANDT, 0, 1), 3)
        self.assertEqual(times(BRANDT, 1, 0), 4)
        for element in range(5):
            self.assertEqual(times(BRANDT, -1, element), element)
            self.assertEqual(times(BRANDT, element, -1), element)
        self.assertEqual(times(BRANDT, -1, -1), -1)

    def test_values(self):
        for table in fixed_tables():
            self.assertEqual(value_of(table, ()), -1)
            for log in logs_up_to(table[0], 5):
                self.assertEqual(value_of(table, log), slow_value(table, log))
        self.assertEqual(value_of(TURN, ("a", "b", "a", "a")), 0)
        self.assertEqual(value_of(TURN, ("a",) * 5000), 1)

    def test_values_of_pieces(self):
        for table in (BRANDT, THREE_ROOMS, TURN):
            for log in logs_up_to(table[0], 4):
                for cut in range(len(log) + 1):
                    pieces = (value_of(table, log[:cut]), value_of(table, log[cut:]))
                    self.assertEqual(times(table, pieces[0], pieces[1]), value_of(table, log))

    def test_least_logs(self):
        for table in fixed_tables() + random_tables(2, 30, 12):
            logs = least_logs(table)
            self.assertEqual([value_of(table, log) for log in logs], list(range(len(table[2]))))
            self.assertEqual(logs, sorted(logs, key=lambda log: (len(log), [table[0].index(w) for w in log])))
        for table in (TRIVIAL, DROP, LEFT_ZERO, BRANDT, TURN):
            first = {}
            for log in logs_up_to(table[0], 5)[1:]:
                first.setdefault(slow_value(table, log), log)
            self.assertEqual(least_logs(table), [first[element] for element in range(len(table[2]))])
        self.assertEqual(least_logs(power_table(0, 40))[39], ("a",) * 40)

    def test_new_list(self):
        least_logs(TURN).append("x")
        self.assertEqual(least_logs(TURN), [("a",), ("b",)])


class MachineTest(unittest.TestCase):
    def test_examples(self):
        self.assertEqual(table_of(EVEN_A), (("a", "b"), (0, 1), ((1, 0), (0, 1))))
        self.assertEqual((least_logs(table_of(EVEN_A)), let_by(EVEN_A)), ([("a",), ("b",)], [-1, 1]))
        self.assertEqual((value_of(table_of(EVEN_A), ("a", "b", "a", "a")), value_of(table_of(EVEN_A), ())), (0, -1))

    def test_random(self):
        rng = random.Random(7)
        done = 0
        while done < 60:
            machine = random_machine(rng, rng.randint(1, 4), rng.randint(1, 2))
            try:
                table = table_of(machine)
            except TooLarge:
                continue
            done += 1
            check_table(table)
            self.assertEqual(table[0], machine[0])
            told = let_by(machine)
            self.assertEqual(told, sorted(told))
            logs = logs_up_to(machine[0], 5)
            way_of = {}
            for log in logs:
                self.assertIs(value_of(table, log) in told, lets(machine, log))
                if log:
                    # The same value exactly for the same way: checked in both directions.
                    self.assertEqual(way_of.setdefault(value_of(table, log), ways(machine, log)), ways(machine, log))
            self.assertEqual(len(set(way_of.values())), len(way_of))

    def test_rooms_that_are_not_reached(self):
        # From room 0 nothing can be told, but from room 1 it can.
        machine = (("a", "b"), ((0, 0), (0, 1)), (0,))
        self.assertEqual(len(table_of(machine)[2]), 2)
        self.assertEqual(let_by(machine), [-1, 0, 1])
        self.assertEqual(let_by((machine[0], machine[1], ())), [])

    def test_empty_log(self):
        self.assertEqual(let_by((("a",), ((1,), (1,)), (0,))), [-1])
        self.assertEqual(let_by((("a",), ((1,), (1,)), (1,))), [0])
        self.assertEqual(let_by(room_cycle(8)), [-1, 7])

    def test_size(self):
        self.assertEqual(len(table_of(FORTY)[2]), 40)
        check_table(table_of(FORTY))
        self.assertTrue(let_by(FORTY))
        for function in (table_of, let_by):
            with self.assertRaises(TooLarge):
                function(FORTY_ONE)
        self.assertEqual(len(table_of(room_cycle(1))[2]), 1)
        self.assertEqual(len(THREE_ROOMS[2]), 27)


class PairedTest(unittest.TestCase):
    def test_example(self):
        joint = (("a", "b"), (0, 1), ((2, 3, 0, 1), (3, 1, 1, 3), (0, 1, 2, 3), (1, 3, 3, 1)))
        self.assertEqual(paired(table_of(EVEN_A), table_of(SEEN_A)), (joint, [(0, 0), (1, 1), (1, 0), (0, 1)]))

    def test_random(self):
        samples = [table for table in random_tables(3, 60, 6) if len(table[0]) == 2]
        for at in range(1, len(samples)):
            first, second = samples[at - 1], samples[at]
            table, pairs = paired(first, second)
            check_table(table)
            self.assertEqual(len(set(pairs)), len(table[2]))
            for log in logs_up_to(table[0], 4)[1:]:
                self.assertEqual(pairs[value_of(table, log)], (value_of(first, log), value_of(second, log)))
        self.assertEqual(paired(BRANDT, BRANDT), (BRANDT, [(element, element) for element in range(5)]))

    def test_size(self):
        five = power_table(0, 5)
        table, pairs = paired(five, power_table(0, 8))
        self.assertEqual((table, len(pairs)), (power_table(0, 40), 40))
        with self.assertRaises(TooLarge):
            paired(five, power_table(1, 8))
        # Each has 40 elements, and so have both together.
        self.assertEqual(len(paired(power_table(0, 40), power_table(0, 40))[1]), 40)

    def test_letters(self):
        with self.assertRaises(NotAllowed):
            paired(TURN, DROP)
        with self.assertRaises(NotAllowed):
            paired(power_table(0, 40), (("b",), (0,), power_table(0, 39)[2]))
        with self.assertRaises(NotAllowed):
            paired(LEFT_ZERO, (("b", "a"), LEFT_ZERO[1], LEFT_ZERO[2]))
