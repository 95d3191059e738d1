"""Tests of scarp.guesses: [5.1], [5.4] and [5.5]."""

import unittest
import unittest.mock

from scarp import guesses
from scarp.bounds import bound_of
from scarp.errors import Missing, TooLarge
from scarp.guesses import least_for_all, sets_of, short_logs
from scarp.machines import check_machine, least_machine, lets
from scarp.shortfalls import shortfall, split_with
from scarp.tables import table_of
from tests.samples import (BRANDT, DROP, LEFT_ZERO, RIGHT_ZERO, THREE_ROOMS, TRIVIAL, TURN, fixed_tables, logs_up_to,
                           power_table, random_tables, slow_next_set, slow_starts)

KINDS = ("good", "forward")


def slow_sets(table, kind, height, most):
    """The sets of all logs in the order of their first logs, with the moves; at most so many that are not empty.

    The answer is a triple: the dict of the sets and their first logs, the moves, and whether these are all.
    """
    start = tuple(sorted(slow_starts(height)))
    logs = {start: ()}
    moves = {}
    for stands in iter(lambda: next((s for s in logs if s not in moves), None), None):
        moves[stands] = []
        for letter in table[0]:
            behind = slow_next_set(table, kind, stands, letter, height)
            logs.setdefault(behind, logs[stands] + (letter,))
            moves[stands].append(behind)
            if len([s for s in logs if s]) > most or len(behind) > 60:
                return logs, moves, False
    return logs, moves, True


def slow_answer(table, kind, height):
    """What `sets_of` has to return, from the slow sets; None if they are too many."""
    logs, moves, whole = slow_sets(table, kind, height, 300)
    order = list(logs)
    if () in logs:
        ahead = order[:order.index(())]
        return None if any(len(stands) > 60 for stands in ahead) or len(ahead) > 300 else ("more", logs[()])
    if not whole:
        return None
    numbers = {stands: number for number, stands in enumerate(order)}
    return ("enough", tuple(order), tuple(tuple(numbers[to] for to in moves[stands]) for stands in order))


class SetsTest(unittest.TestCase):
    def holds(self, table, kind, height):
        wanted = slow_answer(table, kind, height)
        if wanted is None:
            with self.assertRaises(TooLarge):
                sets_of(table, kind, height)
        else:
            self.assertEqual(sets_of(table, kind, height), wanted)
        return "large" if wanted is None else wanted[0]

    def test_constant(self):
        self.assertEqual(guesses.MAX_SETS, 300)

    def test_examples(self):
        self.assertEqual(sets_of(DROP, "good", 1), ("more", ("a",)))
        self.assertEqual(sets_of(TRIVIAL, "good", 1), ("enough", ((((-1, -1),),), (((-1, 0),),)), ((1,), (1,))))

    def test_by_definition(self):
        told = {"enough": 0, "more": 0, "large": 0}
        for table in [DROP, LEFT_ZERO, RIGHT_ZERO, BRANDT, TURN, power_table(0, 5), power_table(2, 3)] + \
                random_tables(141, 25, 12):
            for kind in KINDS:
                for height in (1, 2, 3):
                    told[self.holds(table, kind, height)] += 1
        for table in (TRIVIAL, DROP, LEFT_ZERO, RIGHT_ZERO, power_table(0, 3), BRANDT, THREE_ROOMS):
            told[self.holds(table, "good", 4)] += 1
            told[self.holds(table, "forward", 4)] += 1
        self.assertGreater(min(told.values()), 2, told)

    def test_main_theorem(self):
        # The first log whose set is empty is the first one that has no split; without one, all logs have one.
        for table in [DROP, LEFT_ZERO, BRANDT, TURN, power_table(0, 4)] + random_tables(142, 20, 10):
            for kind in KINDS:
                for height in (1, 2):
                    answer = sets_of(table, kind, height)
                    first = next((log for log in logs_up_to(table[0], 5)
                                  if split_with(table, kind, log, height) is None), None)
                    if first is not None:
                        self.assertEqual(answer, ("more", first))
                    elif answer[0] == "more":
                        self.assertGreater(len(answer[1]), 5)
                        self.assertIsNone(split_with(table, kind, answer[1], height))
                        self.assertIsNotNone(split_with(table, kind, answer[1][:-1], height))


class LimitTest(unittest.TestCase):
    """Machines whose tables are at the limits, found by trying."""

    def counted(self, machine, kind, height):
        """The number of sets ahead of the first empty one, the most stands of one, and the first word of the answer."""
        with unittest.mock.patch.multiple(guesses, MAX_SETS=2000, MAX_KEPT=2000):
            growth = guesses.Growth(table_of(machine), kind, height)
            word = "enough"
            while not growth.is_whole():
                if growth.make_moves(False) is not None:
                    word = "more"
                    break
        return len(growth.sets), max(len(stands) for stands in growth.sets), word

    def holds(self, machine, kind, height, wanted):
        self.assertEqual(self.counted(machine, kind, height), wanted)
        if wanted[0] > 300 or wanted[1] > 60:
            with self.assertRaises(TooLarge):
                sets_of(table_of(machine), kind, height)
            with self.assertRaises(TooLarge):
                short_logs(table_of(machine), kind, height)
            return None
        answer = sets_of(table_of(machine), kind, height)
        self.assertEqual(answer[0], wanted[2])
        if wanted[2] == "enough":
            self.assertEqual(len(answer[1]), wanted[0])
            self.assertEqual(short_logs(table_of(machine), kind, height)[1], ((0, 0),))
        return answer

    def test_sets_that_are_enough(self):
        just = (("a", "b"), ((0, 3), (2, 4), (0, 2), (0, 3), (3, 3)), (0,))
        self.assertEqual(self.holds(just, "good", 3, (300, 15, "enough")), slow_answer(table_of(just), "good", 3))
        self.holds(just, "forward", 3, (300, 15, "enough"))
        more = (("a", "b"), ((0, 2), (5, 4), (0, 2), (3, 3), (3, 3), (2, 4)), (0,))
        self.holds(more, "forward", 3, (302, 10, "enough"))

    def test_sets_ahead_of_the_empty_one(self):
        just = (("a", "b"), ((2, 0), (0, 0), (1, 1)), (0,))
        self.assertEqual(self.holds(just, "good", 3, (300, 10, "more")), slow_answer(table_of(just), "good", 3))
        one_more = (("a", "b"), ((4, 2), (4, 2), (4, 2), (1, 0), (4, 3)), (2, 3))
        self.holds(one_more, "good", 3, (301, 10, "more"))
        self.holds(one_more, "forward", 3, (301, 10, "more"))

    def test_stands(self):
        just = (("a", "b"), ((3, 4), (1, 2), (3, 3), (3, 2), (1, 0)), (0, 1, 3))
        self.holds(just, "good", 4, (146, 60, "enough"))
        self.holds(just, "forward", 4, (146, 60, "enough"))
        self.holds((("a", "b"), ((0, 1), (1, 0), (0, 0)), (1,)), "good", 4, (127, 61, "enough"))
        self.holds((("a", "b"), ((2, 0), (1, 1), (2, 2), (2, 4), (1, 0), (2, 3)), (0,)), "good", 3, (118, 60, "more"))

    def test_behind_the_empty_one(self):
        # Too many sets behind the first empty one do not matter, but for the logs that have a split.
        machine = (("a", "b"), ((3, 3), (3, 4), (1, 3), (0, 0), (2, 1)), (1, 3, 4))
        table = table_of(machine)
        self.assertEqual(self.counted(machine, "good", 3), (107, 15, "more"))
        _, log = sets_of(table, "good", 3)
        self.assertIsNone(split_with(table, "good", log, 3))
        with self.assertRaises(TooLarge):
            short_logs(table, "good", 3)


class LeastTest(unittest.TestCase):
    def test_examples(self):
        self.assertEqual(least_for_all(DROP, "good"), (2, ("a",)))
        self.assertEqual(least_for_all(TRIVIAL, "good"), (1, None))
        self.assertEqual(least_for_all(LEFT_ZERO, "forward"), (1, None))
        self.assertEqual(least_for_all(LEFT_ZERO, "good"), (2, ("a", "b")))
        for period, height in ((1, 1), (2, 2), (3, 3), (4, 3), (5, 4), (8, 4)):
            self.assertEqual(least_for_all(power_table(0, period), "good")[0], height)

    def test_missing(self):
        for period in (9, 12, 20):
            for kind in KINDS:
                with self.assertRaises(Missing):
                    least_for_all(power_table(0, period), kind)

    def test_by_sets(self):
        told = {"large": 0, "missing": 0, 1: 0, 2: 0, 3: 0, 4: 0}
        for table in fixed_tables() + random_tables(143, 25, 40):
            bound = bound_of(table)[0]
            found = {}
            for kind in KINDS:
                before = ("more", None)
                wanted = "missing"
                for height in (1, 2, 3, 4):
                    try:
                        answer = sets_of(table, kind, height)
                    except TooLarge:
                        wanted = "large"
                        break
                    if answer[0] == "enough":
                        wanted = (height, before[1])
                        break
                    before = answer
                if wanted == "large":
                    with self.assertRaises(TooLarge):
                        least_for_all(table, kind)
                elif wanted == "missing":
                    with self.assertRaises(Missing):
                        least_for_all(table, kind)
                else:
                    self.assertEqual(least_for_all(table, kind), wanted)
                    self.assertLessEqual(wanted[0], bound)
                    found[kind] = wanted[0]
                told[wanted if isinstance(wanted, str) else wanted[0]] += 1
            if len(found) == 2:
                self.assertLessEqual(found["forward"], found["good"])
        self.assertGreater(min(told[key] for key in ("large", 1, 2, 3)), 2, told)


class ShortLogsTest(unittest.TestCase):
    def test_example(self):
        self.assertEqual(short_logs(DROP, "good", 1), (("a",), ((1,), (1,)), (0,)))

    def test_all_logs(self):
        self.assertEqual(short_logs(DROP, "good", 2), (("a",), ((0,),), (0,)))
        self.assertEqual(short_logs(LEFT_ZERO, "forward", 3), (("a", "b"), ((0, 0),), (0,)))

    def test_by_definition(self):
        told = {"machine": 0, "large": 0}
        for table in [DROP, LEFT_ZERO, RIGHT_ZERO, BRANDT, TURN, power_table(0, 4), power_table(0, 7)] + \
                random_tables(144, 60, 16):
            for kind in KINDS:
                for height in (1, 2):
                    try:
                        machine = short_logs(table, kind, height)
                    except TooLarge:
                        told["large"] += 1
                        continue
                    told["machine"] += 1
                    self.assertIsNone(check_machine(machine))
                    self.assertEqual(least_machine(machine), machine)
                    self.assertEqual(machine[0], table[0])
                    for log in logs_up_to(table[0], 5):
                        self.assertIs(lets(machine, log), split_with(table, kind, log, height) is not None)
        self.assertGreater(min(told.values()), 15, told)

    def test_many_rooms(self):
        # With three levels a log of one letter over a long period has a split up to 6 letters: that makes 8 rooms.
        table = power_table(0, 9)
        self.assertEqual([many for many in range(9) if split_with(table, "good", ("a",) * many, 3) is None], [7, 8])
        self.assertEqual(short_logs(table, "good", 3), (("a",), tuple((min(at + 1, 7),) for at in range(8)),
                                                        tuple(range(7))))
        eight = table_of((("a", "b"), ((2, 0), (3, 1), (2, 0), (0, 1)), (1, 3)))
        nine = table_of((("a", "b"), ((0, 3), (1, 0), (2, 3), (2, 2)), (1, 2)))
        for kind in KINDS:
            self.assertEqual(len(short_logs(eight, kind, 2)[1]), 8)
            with self.assertRaises(TooLarge):
                short_logs(nine, kind, 2)
            self.assertEqual(sets_of(nine, kind, 2)[0], "more")


if __name__ == "__main__":
    unittest.main()
