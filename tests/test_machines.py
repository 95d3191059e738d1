"""Tests of scarp.machines: [1.4]."""

import random
import unittest

from scarp import machines
from scarp.errors import NotAllowed, TooLarge
from scarp.machines import (check_machine, first_apart, first_log, joined, least_machine, lets, machine_of,
                            room_behind, turned)
from tests.samples import logs_up_to, random_machine, random_pattern, room_cycle, row_of, slow_lets

LETTERS = ("a", "b")
A = ("letter", "a")
ANY = ("any",)
EVEN_A = (LETTERS, ((1, 0), (0, 1)), (0,))


def counter(rooms, letter):
    """A machine over a and b that counts one letter round some rooms, and lets by at the first one."""
    moves = tuple(tuple((room + (other == letter)) % rooms for other in LETTERS) for room in range(rooms))
    return (LETTERS, moves, (0,))


def slow_apart(first, second):
    """Whether two machines differ in some log, by marking all pairs of rooms that logs lead to."""
    pairs = [(0, 0)]
    for one, other in pairs:
        for at in range(len(first[0])):
            behind = (first[1][one][at], second[1][other][at])
            if behind not in pairs:
                pairs.append(behind)
    return any((one in first[2]) != (other in second[2]) for one, other in pairs)


class MachineTest(unittest.TestCase):
    def same_logs(self, machine, wanted, letters=LETTERS, length=5):
        for log in logs_up_to(letters, length):
            self.assertIs(lets(machine, log), wanted(log), log)

    def is_least(self, machine):
        """The rooms are reached in the order of their first logs, and no two of them can be one."""
        letters, moves, granted = machine
        check_machine(machine)
        found = [0]
        for room in found:
            for to in moves[room]:
                if to not in found:
                    found.append(to)
        self.assertEqual(found, list(range(len(moves))))
        for one in found:
            for other in found[:one]:
                turns = [begun_at(machine, one), begun_at(machine, other)]
                self.assertTrue(slow_apart(turns[0], turns[1]))


def begun_at(machine, room):
    """The machine that begins in another room: this room and room 0 change their numbers."""
    letters, moves, granted = machine
    names = {0: room, room: 0}

    def name(old):
        return names.get(old, old)

    rows = tuple(tuple(name(to) for to in moves[name(old)]) for old in range(len(moves)))
    return (letters, rows, tuple(sorted(name(old) for old in granted)))


class CheckTest(unittest.TestCase):
    def test_constant(self):
        self.assertEqual(machines.MAX_ROOMS, 8)

    def test_machines(self):
        for rooms in (1, 2, 7, 8):
            self.assertIsNone(check_machine(room_cycle(rooms)))
        self.assertIsNone(check_machine((LETTERS, ((0, 1), (1, 1)), ())))
        self.assertIsNone(check_machine((LETTERS, ((0, 1), (1, 1)), (0, 1))))
        self.assertIsNone(check_machine((("a", "b", "c", "d"), ((0, 0, 0, 0),), (0,))))

    def test_wrong_machines(self):
        wrong = [(("a",), (), ()), room_cycle(9), ((), ((),), (0,)), (("a", "a"), ((0, 0),), (0,)),
                 (("any",), ((0,),), ()), (LETTERS, ((0,),), ()), (LETTERS, ((0, 0, 0),), ()),
                 (LETTERS, ((0, 1), (1,)), ()), (LETTERS, ((0, 1),), ()), (LETTERS, ((0, -1),), ()),
                 (LETTERS, ((0, 0), (0, 2)), ()), (LETTERS, ((0, 0),), (1,)), (LETTERS, ((0, 0),), (-1,)),
                 (LETTERS, ((0, 1), (1, 1)), (1, 0)), (LETTERS, ((0, 1), (1, 1)), (1, 1)),
                 (LETTERS, ((0, 1), (1, 1)), (0, 1, 2)), (("a", "b", "c", "d", "e"), ((0,) * 5,), ())]
        for machine in wrong:
            with self.assertRaises(NotAllowed, msg=machine):
                check_machine(machine)


class ReadTest(MachineTest):
    def test_rooms(self):
        self.assertEqual(room_behind(EVEN_A, ()), 0)
        self.assertEqual(room_behind(EVEN_A, ("a", "b", "b")), 1)
        self.assertEqual(room_behind(EVEN_A, ("a",) * 5001), 1)
        self.assertIs(lets(EVEN_A, ()), True)
        self.assertIs(lets(EVEN_A, ("b", "a")), False)
        self.assertIs(lets(EVEN_A, ("a", "b") * 3000), True)

    def test_least(self):
        # Rooms 1 and 3 do the same, room 2 is reached ahead of them, and room 4 is never reached.
        machine = (LETTERS, ((2, 1), (0, 3), (2, 2), (0, 1), (4, 0)), (1, 3, 4))
        self.assertEqual(least_machine(machine), (LETTERS, ((1, 2), (1, 1), (0, 2)), (2,)))
        self.assertEqual(least_machine((LETTERS, ((1, 1), (0, 0)), (0, 1))), (LETTERS, ((0, 0),), (0,)))
        self.assertEqual(least_machine((LETTERS, ((1, 1), (0, 0)), ())), (LETTERS, ((0, 0),), ()))
        self.assertEqual(least_machine(room_cycle(8)), room_cycle(8))
        self.assertEqual(least_machine((("a",), tuple(((at + 1) % 8,) for at in range(8)), (0, 4))), room_cycle(4))

    def test_least_of_random(self):
        rng = random.Random(3)
        for _ in range(150):
            machine = random_machine(rng, rng.randint(1, 8), rng.randint(1, 3))
            least = least_machine(machine)
            self.is_least(least)
            self.assertFalse(slow_apart(machine, least))
            self.assertEqual(least_machine(least), least)
            other = turned(machine)
            self.is_least(other)
            for log in logs_up_to(machine[0], 3):
                self.assertIs(lets(other, log), not lets(machine, log))
            self.assertEqual(turned(other), least)

    def test_joined(self):
        rng = random.Random(4)
        for _ in range(150):
            first = random_machine(rng, rng.randint(1, 3), 2)
            second = random_machine(rng, rng.randint(1, 2), 2)
            both, either = joined(first, second, "and"), joined(first, second, "or")
            self.is_least(both)
            self.is_least(either)
            self.same_logs(both, lambda log: lets(first, log) and lets(second, log))
            self.same_logs(either, lambda log: lets(first, log) or lets(second, log))

    def test_joined_large(self):
        four, two = counter(4, "a"), counter(2, "b")
        self.assertEqual(len(joined(four, two, "and")[1]), 8)
        self.assertEqual(len(joined(four, two, "or")[1]), 8)
        for word in ("and", "or"):
            with self.assertRaises(TooLarge):
                joined(counter(3, "a"), counter(3, "b"), word)
        # Many pairs of rooms are met here, but the least machine is small.
        nothing = (LETTERS, counter(8, "b")[1], ())
        self.assertEqual(joined(counter(8, "a"), nothing, "and"), (LETTERS, ((0, 0),), ()))
        self.assertEqual(joined(counter(8, "a"), nothing, "or"), least_machine(counter(8, "a")))

    def test_joined_letters(self):
        for word in ("and", "or"):
            with self.assertRaises(NotAllowed):
                joined(counter(8, "a"), room_cycle(7), word)
            with self.assertRaises(NotAllowed):
                joined(EVEN_A, (("b", "a"), EVEN_A[1], EVEN_A[2]), word)


class PatternMachineTest(MachineTest):
    def test_examples(self):
        letters = ("on", "off")
        pairs = ("again", ("row", ("letter", "on"), ("letter", "off")))
        self.assertEqual(machine_of(letters, pairs), (("on", "off"), ((1, 2), (2, 0), (2, 2)), (0,)))
        off_behind = ("row", ("any",), ("letter", "off"))
        self.assertEqual(first_log(machine_of(letters, off_behind)), ("on", "off"))

    def test_small_ones(self):
        self.assertEqual(machine_of(LETTERS, A), (LETTERS, ((1, 2), (2, 2), (2, 2)), (1,)))
        self.assertEqual(machine_of(("a",), A), (("a",), ((1,), (2,), (2,)), (1,)))
        self.assertEqual(machine_of(("b", "a"), A), (("b", "a"), ((1, 2), (1, 1), (1, 1)), (2,)))
        self.assertEqual(machine_of(LETTERS, ANY), (LETTERS, ((1, 1), (2, 2), (2, 2)), (1,)))
        self.assertEqual(machine_of(LETTERS, ("empty",)), (LETTERS, ((1, 1), (1, 1)), (0,)))
        self.assertEqual(machine_of(LETTERS, ("none",)), (LETTERS, ((0, 0),), ()))
        self.assertEqual(machine_of(LETTERS, ("not", ("none",))), (LETTERS, ((0, 0),), (0,)))
        self.assertEqual(machine_of(LETTERS, ("again", ("none",))), machine_of(LETTERS, ("empty",)))

    def test_random_patterns(self):
        rng = random.Random(5)
        done = 0
        while done < 400:
            pattern = random_pattern(rng, LETTERS, rng.randint(1, 9))
            try:
                machine = machine_of(LETTERS, pattern)
            except TooLarge:
                continue
            done += 1
            self.is_least(machine)
            self.same_logs(machine, lambda log: slow_lets(pattern, log), LETTERS, 4)

    def test_rooms(self):
        self.assertEqual(len(machine_of(LETTERS, row_of(ANY, 6))[1]), 8)
        for pattern in (row_of(ANY, 7), ("not", row_of(A, 7)), ("and", ("none",), row_of(ANY, 7)),
                        ("or", row_of(ANY, 7), ("not", ("none",))), ("row", row_of(ANY, 7), ("none",)),
                        ("again", ("not", ("not", row_of(ANY, 7))))):
            with self.assertRaises(TooLarge, msg=pattern):
                machine_of(LETTERS, pattern)
        for pattern in (("and", ("none",), row_of(ANY, 6)), ("row", row_of(ANY, 6), ("none",))):
            self.assertEqual(machine_of(LETTERS, pattern), (LETTERS, ((0, 0),), ()))
        self.assertEqual(len(machine_of(LETTERS, ("again", row_of(ANY, 6)))[1]), 6)
        self.assertEqual(len(machine_of(LETTERS, ("again", ("again", row_of(A, 6))))[1]), 7)

    def test_row_grouped_otherwise(self):
        right = ANY
        for _ in range(5):
            right = ("row", ANY, right)
        self.assertEqual(machine_of(LETTERS, right), machine_of(LETTERS, row_of(ANY, 6)))
        with self.assertRaises(TooLarge):
            machine_of(LETTERS, ("row", ANY, right))

    def test_far_letter(self):
        # The third letter from the end is an a: 8 rooms; the fourth one: 16.
        start = ("again", ANY)
        self.assertEqual(len(machine_of(LETTERS, row_of_all([start, A, ANY, ANY]))[1]), 8)
        with self.assertRaises(TooLarge):
            machine_of(LETTERS, row_of_all([start, A, ANY, ANY, ANY]))


def row_of_all(patterns):
    """The row of some patterns, grouped from the left."""
    whole = patterns[0]
    for pattern in patterns[1:]:
        whole = ("row", whole, pattern)
    return whole


class FirstLogTest(unittest.TestCase):
    def test_example(self):
        letters = ("on", "off")
        one = (letters, ((0, 0),), (0,))
        self.assertEqual(first_apart(one, (letters, ((0, 1), (1, 0)), (0,))), ("off",))

    def test_first_log(self):
        self.assertEqual(first_log(EVEN_A), ())
        self.assertEqual(first_log(turned(EVEN_A)), ("a",))
        self.assertIsNone(first_log((LETTERS, ((0, 0),), ())))
        # The only room that lets by is never reached.
        self.assertIsNone(first_log((LETTERS, ((0, 0), (1, 1)), (1,))))
        self.assertEqual(first_log((("a",), room_cycle(8)[1], (7,))), ("a",) * 7)

    def test_first_apart(self):
        self.assertIsNone(first_apart(EVEN_A, EVEN_A))
        self.assertEqual(first_apart(EVEN_A, turned(EVEN_A)), ())
        self.assertIsNone(first_apart(room_cycle(4), (("a",), room_cycle(8)[1], (0, 4))))
        self.assertEqual(first_apart(room_cycle(7), room_cycle(8)), ("a",) * 7)
        for second in (room_cycle(2), (("b", "a"), EVEN_A[1], EVEN_A[2])):
            with self.assertRaises(NotAllowed):
                first_apart(EVEN_A, second)

    def test_random(self):
        rng = random.Random(6)
        for _ in range(200):
            letters = rng.randint(1, 2)
            first = random_machine(rng, rng.randint(1, 4), letters)
            second = random_machine(rng, rng.randint(1, 3), letters)
            logs = logs_up_to(first[0], 11 if letters == 1 else 8)
            taken = [log for log in logs if lets(first, log)]
            self.assertEqual(first_log(first), taken[0] if taken else None)
            apart = [log for log in logs if lets(first, log) != lets(second, log)]
            if apart:
                self.assertEqual(first_apart(first, second), apart[0])
            self.assertEqual(first_apart(first, second) is not None, slow_apart(first, second))
