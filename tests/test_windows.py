"""Tests of scarp.windows: [11.1]."""

import random
import unittest

from scarp import windows
from scarp.errors import Missing, NotAllowed
from scarp.tables import value_of
from scarp.windows import Window, cost_of
from tests.samples import BRANDT, LEFT_ZERO, THREE_ROOMS, TURN, random_tables, slow_value

TABLE = (("a", "b"), (0, 1), ((1, 0), (0, 1)))


class Model:
    """A window as the document tells it: the letters of the front and of the back, and the products made."""

    def __init__(self, table):
        self.table, self.front, self.back, self.made = table, [], [], 0

    def push(self, letter):
        self.made += len(self.back) > 0
        self.back.append(letter)

    def pop(self):
        if not self.front:
            self.made += max(0, len(self.back) - 1)
            self.front, self.back = self.back, []
        return self.front.pop(0)

    def value(self):
        self.made += bool(self.front) and bool(self.back)
        return slow_value(self.table, self.front + self.back)

    def stored(self):
        values = [slow_value(self.table, self.front[at:]) for at in range(len(self.front))]
        return tuple(values), slow_value(self.table, self.back)


class WindowTest(unittest.TestCase):
    def test_moves(self):
        self.assertEqual(windows.MOVES, ("in", "out", "ask"))

    def test_examples(self):
        window = Window(TABLE)
        for letter in ("a", "b", "a"):
            self.assertIsNone(window.push(letter))
        self.assertEqual((window.value(), window.made(), window.pop(), window.stored(), window.made()),
                         (1, 2, "a", ((0, 0), -1), 4))
        self.assertEqual(cost_of(["in", "in", "in", "ask", "out", "in", "ask"]), (0, 1, 1, 0, 2, 0, 1))

    def test_by_definition(self):
        rng = random.Random(351)
        for table in [TABLE, TURN, BRANDT, LEFT_ZERO, THREE_ROOMS] + random_tables(352, 8, 20):
            window, model = Window(table), Model(table)
            moves, costs = [], []
            for _ in range(200):
                move = rng.choice(("in", "in", "out", "ask"))
                if move == "out" and not window.letters():
                    continue
                before = window.made()
                if move == "in":
                    letter = rng.choice(table[0])
                    window.push(letter)
                    model.push(letter)
                elif move == "out":
                    self.assertEqual(window.pop(), model.pop())
                else:
                    self.assertEqual(window.value(), model.value())
                moves.append(move)
                costs.append(window.made() - before)
                self.assertEqual((window.letters(), window.stored()), (tuple(model.front + model.back), model.stored()))
                self.assertEqual(window.made(), model.made)
            self.assertEqual(cost_of(moves), tuple(costs))

    def test_empty(self):
        window = Window(TURN)
        self.assertEqual((window.value(), window.letters(), window.stored(), window.made()), (-1, (), ((), -1), 0))
        with self.assertRaises(Missing):
            window.pop()
        window.push("a")
        self.assertEqual((window.pop(), window.value(), window.made()), ("a", -1, 0))
        with self.assertRaises(Missing):
            window.pop()
        self.assertEqual((window.letters(), window.stored()), ((), ((), -1)))

    def test_from_back_to_front(self):
        window = Window(BRANDT)
        for letter in "abba":
            window.push(letter)
        self.assertEqual((window.stored(), window.made()), (((), value_of(BRANDT, tuple("abba"))), 3))
        self.assertEqual((window.pop(), window.made()), ("a", 6))
        self.assertEqual(window.stored(), (tuple(value_of(BRANDT, tuple("bba")[at:]) for at in range(3)), -1))
        window.push("b")
        self.assertEqual((window.made(), window.stored()[1], window.letters()), (6, 1, tuple("bbab")))
        self.assertEqual((window.value(), window.made()), (value_of(BRANDT, tuple("bbab")), 7))
        for letter in "bba":
            self.assertEqual(window.pop(), letter)
        self.assertEqual((window.stored(), window.made()), (((), 1), 7))
        self.assertEqual((window.pop(), window.stored(), window.made()), ("b", ((), -1), 7))

    def test_wrong_letters(self):
        window = Window(TURN)
        window.push("b")
        for letter in ("c", "", "in"):
            with self.assertRaises(NotAllowed):
                window.push(letter)
        self.assertEqual((window.letters(), window.made(), window.stored()), (("b",), 0, ((), 1)))

    def test_at_most_two_products_a_letter(self):
        rng = random.Random(353)
        for _ in range(50):
            moves, there = [], 0
            for _ in range(100):
                move = rng.choice(("in", "out")) if there else "in"
                there += 1 if move == "in" else -1
                moves.append(move)
            self.assertLessEqual(sum(cost_of(moves)), 2 * moves.count("in"))
            asked = cost_of([part for move in moves for part in (move, "ask")])
            self.assertLessEqual(max(asked[1::2]), 1)
            self.assertEqual(asked[::2], cost_of(moves))


class CostTest(unittest.TestCase):
    def test_no_moves(self):
        self.assertEqual(cost_of([]), ())
        self.assertEqual(cost_of(["ask", "ask"]), (0, 0))
        self.assertEqual(cost_of(["in", "out", "ask"]), (0, 0, 0))

    def test_wrong_moves(self):
        for moves in (["up"], [""], ["in", "out", "In"], ["in", "up", "out", "out"], ["ask", "push"]):
            with self.assertRaises(NotAllowed):
                cost_of(moves)
        for moves in (["out"], ["in", "out", "out"], ["ask", "out"], ["out", "up"], ["in", "in", "out", "out", "out", ""]):
            with self.assertRaises(Missing):
                cost_of(moves)

    def test_moves_stay(self):
        moves = ["in", "out"]
        cost_of(moves)
        self.assertEqual(moves, ["in", "out"])


if __name__ == "__main__":
    unittest.main()
