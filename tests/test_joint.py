"""Tests of scarp.joint: [4.4]."""

import random
import unittest

from scarp import joint
from scarp.bounds import bound_of
from scarp.errors import Missing, NotAllowed, TooLarge
from scarp.joint import Panel, joint_table
from scarp.machines import lets
from scarp.tables import check_table, let_by, table_of, value_of
from tests.samples import FORTY, FORTY_ONE, LETTERS, logs_up_to, random_log, random_machine, room_cycle, slow_value

ODD = (("a", "b"), ((1, 0), (0, 1)), (1,))
SEEN = (("a", "b"), ((0, 1), (1, 1)), (1,))


def slow_ways(machines, log):
    """For each machine the rooms to which a log leads from each of its rooms, by the words of the document."""
    told = []
    for letters, moves, _ in machines:
        rooms = list(range(len(moves)))
        for letter in log:
            rooms = [moves[room][letters.index(letter)] for room in rooms]
        told.append(tuple(rooms))
    return tuple(told)


def slow_count(letters, machines, most):
    """The number of different ways of logs, but at most `most` + 1."""
    found, waiting = {}, [(letter,) for letter in letters]
    while waiting and len(found) <= most:
        log = waiting.pop(0)
        if slow_ways(machines, log) not in found:
            found[slow_ways(machines, log)] = log
            waiting += [log + (letter,) for letter in letters]
    return len(found)


def random_machines(rng, many, letters):
    """So many machines over so many letters."""
    return [random_machine(rng, rng.randint(1, 4), letters) for _ in range(many)]


class JointTableTest(unittest.TestCase):
    def holds(self, letters, machines, length):
        before = list(machines)
        table, wishes = joint_table(letters, machines)
        self.assertEqual(machines, before)
        self.assertIsNone(check_table(table))
        self.assertEqual((table[0], len(wishes)), (letters, len(machines)))
        firsts = {}
        for log in logs_up_to(letters, length)[1:]:
            ways = slow_ways(machines, log)
            firsts.setdefault(ways, len(firsts))
            self.assertEqual(slow_value(table, log), firsts[ways])
        for wish, machine in zip(wishes, machines):
            self.assertEqual(list(wish), sorted(set(wish)))
            for log in logs_up_to(letters, length):
                self.assertIs(slow_value(table, log) in wish, lets(machine, log))
        return table, wishes

    def test_constant(self):
        self.assertEqual(joint.MAX_READERS, 4)

    def test_example(self):
        table, wishes = joint_table(("a", "b"), [ODD, SEEN])
        self.assertEqual((table[1], wishes), ((0, 1), ((0, 3), (1, 3))))
        self.holds(("a", "b"), [ODD, SEEN], 6)

    def test_no_machine(self):
        for many in (1, 2, 4):
            told = ((LETTERS[:many], (0,) * many, ((0,),)), ())
            self.assertEqual(joint_table(LETTERS[:many], []), told)

    def test_one_machine(self):
        rng = random.Random(101)
        for _ in range(60):
            machine = random_machine(rng, rng.randint(1, 3), rng.randint(1, 3))
            table, wishes = joint_table(machine[0], [machine])
            self.assertEqual((table, list(wishes[0])), (table_of(machine), let_by(machine)))

    def test_by_definition(self):
        rng = random.Random(102)
        seen = {"small": 0, "large": 0}
        for _ in range(120):
            letters = LETTERS[:rng.randint(1, 3)]
            machines = random_machines(rng, rng.randint(1, 4), len(letters))
            if slow_count(letters, machines, 40) > 40:
                seen["large"] += 1
                with self.assertRaises(TooLarge):
                    joint_table(letters, machines)
            else:
                seen["small"] += 1
                self.holds(letters, machines, 5)
        self.assertGreater(min(seen.values()), 15)

    def test_other_letters_in_another_order(self):
        rng = random.Random(103)
        for letters in (("b", "a"), ("up", "down"), ("z", "m", "a")):
            for _ in range(6):
                machines = [(letters,) + machine[1:] for machine in random_machines(rng, 2, len(letters))]
                if slow_count(letters, machines, 40) <= 40:
                    self.holds(letters, machines, 5)
        turned = (("b", "a"), ((0, 1), (1, 0)), (1,))
        self.assertEqual(joint_table(("b", "a"), [turned])[0][1], (0, 1))

    def test_wrong_letters(self):
        for letters in (("a",), ("b", "a"), ("a", "b", "c"), ("x", "y")):
            with self.assertRaises(NotAllowed):
                joint_table(letters, [ODD])

    def test_four_and_five(self):
        self.holds(("a", "b"), [ODD, SEEN, ODD, SEEN], 5)
        with self.assertRaises(NotAllowed):
            joint_table(("a", "b"), [ODD, SEEN, ODD, SEEN, ODD])
        # Too many machines are told ahead of too many elements.
        with self.assertRaises(NotAllowed):
            joint_table(("a",), [room_cycle(rooms) for rooms in (8, 7, 5, 3, 2)])
        with self.assertRaises(TooLarge):
            joint_table(("a",), [room_cycle(rooms) for rooms in (8, 7, 5, 3)])

    def test_forty(self):
        self.assertEqual(len(joint_table(FORTY[0], [FORTY])[0][2]), 40)
        self.assertEqual(len(joint_table(FORTY[0], [FORTY, FORTY, FORTY, FORTY])[0][2]), 40)
        self.assertEqual(len(joint_table(("a",), [room_cycle(8), room_cycle(5)])[0][2]), 40)
        with self.assertRaises(TooLarge):
            joint_table(FORTY_ONE[0], [FORTY_ONE])
        with self.assertRaises(TooLarge):
            joint_table(("a",), [room_cycle(6), room_cycle(7)])

    def test_four_large_machines(self):
        machines = [room_cycle(rooms) for rooms in (8, 5, 4, 2)]
        table, wishes = joint_table(("a",), machines)
        self.assertEqual(len(table[2]), 40)
        self.assertEqual(wishes[0], (-1, 7, 15, 23, 31, 39))


class PanelTest(unittest.TestCase):
    def holds(self, machines, log, slices):
        panel = Panel(machines[0][0], machines, log)
        table, wishes = joint_table(machines[0][0], machines)
        most = 2 * bound_of(table)[0] - 1
        for x, y in slices:
            for number, machine in enumerate(machines):
                self.assertIs(panel.lets(number, x, y), lets(machine, log[x:y]))
            pieces = panel.pieces(x, y)
            self.assertLessEqual(len(pieces), most)
            places = [x] + [last for _, last, _ in pieces]
            self.assertEqual([first for first, _, _ in pieces], places[:-1])
            self.assertEqual((places, places[-1]), (sorted(set(places)), y))
            for first, last, value in pieces:
                self.assertEqual(value, value_of(table, log[first:last]))
            pieces.clear()
            self.assertEqual([last for _, last, _ in panel.pieces(x, y)], places[1:])

    def test_all_slices(self):
        rng = random.Random(104)
        done = 0
        while done < 30:
            letters = LETTERS[:rng.randint(1, 3)]
            machines = random_machines(rng, rng.randint(1, 4), len(letters))
            if slow_count(letters, machines, 40) > 40:
                continue
            done += 1
            log = tuple(rng.choice(letters) for _ in range(rng.randint(0, 20)))
            self.holds(machines, log, [(x, y) for y in range(len(log) + 1) for x in range(y + 1)])

    def test_long_log(self):
        rng = random.Random(105)
        log = random_log(rng, (("a", "b"),), 400)
        slices = [(0, 400), (399, 400), (400, 400), (0, 0)]
        slices += [tuple(sorted((rng.randint(0, 400), rng.randint(0, 400)))) for _ in range(60)]
        self.holds([ODD, SEEN, ODD], log, slices)
        self.holds([FORTY], random_log(rng, (FORTY[0],), 400), slices)

    def test_wrong_slices(self):
        panel = Panel(("a", "b"), [ODD, SEEN], ("a", "b", "a"))
        for first, last in ((-1, 2), (0, 4), (2, 1), (4, 4), (-1, -1)):
            with self.assertRaises(NotAllowed):
                panel.lets(1, first, last)
            with self.assertRaises(NotAllowed):
                panel.pieces(first, last)
        for number in (-1, 2, 3, 40):
            with self.assertRaises(Missing):
                panel.lets(number, 0, 3)
            with self.assertRaises(Missing):
                panel.lets(number, 3, 0)

    def test_without_machines(self):
        panel = Panel(("a", "b"), [], ("a", "b", "b"))
        self.assertEqual(panel.pieces(0, 3), [(0, 3, 0)])
        with self.assertRaises(Missing):
            panel.lets(0, 0, 0)

    def test_errors(self):
        with self.assertRaises(NotAllowed):
            Panel(("a", "b"), [ODD] * 5, ())
        with self.assertRaises(TooLarge):
            Panel(("a",), [room_cycle(6), room_cycle(7)], ("a",))

    def test_list_is_not_kept(self):
        machines = [ODD, SEEN]
        panel = Panel(("a", "b"), machines, ("a", "b"))
        machines.clear()
        self.assertIs(panel.lets(0, 0, 2), True)
        self.assertIs(panel.lets(1, 0, 1), False)


if __name__ == "__main__":
    unittest.main()
