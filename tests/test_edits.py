"""Tests of scarp.edits: [11.8]."""

import random
import unittest

from scarp import edits
from scarp.edits import Line
from scarp.errors import Missing, NotAllowed, TooLarge
from scarp.trees import judge_tree
from tests.samples import BRANDT, LEFT_ZERO, THREE_ROOMS, TURN, random_log, random_tables, slow_value
from tests.test_trees import letters_of, slow_built, slow_cut, slow_joined

TABLE = (("a", "b"), (0, 1), ((1, 0), (0, 1)))


class Model:
    """A line by the words of the document: the tree, and the products so far."""

    def __init__(self, table, log):
        self.table, self.made, self.past = table, max(0, len(log) - 1), []
        self.tree = slow_built(table, log) if log else None

    def log(self):
        return letters_of(self.tree) if self.tree else ()

    def leaf(self, letter):
        return (self.table[1][self.table[0].index(letter)], letter)

    def cut(self, tree, place):
        ahead, behind, made = slow_cut(self.table, tree, place)
        self.made += made
        return ahead, behind

    def join(self, first, second):
        tree, made = slow_joined(self.table, first, second)
        self.made += made
        return tree

    def become(self, tree):
        self.past.append(self.tree)
        self.tree = tree

    def put(self, place, letter):
        ahead, behind = self.cut(self.tree, place)
        self.become(self.join(self.join(ahead, self.leaf(letter)), behind))

    def take(self, place):
        ahead, rest = self.cut(self.tree, place)
        leaf, behind = self.cut(rest, 1)
        self.become(self.join(ahead, behind))
        return leaf[1]

    def changed(self, tree, place, letter):
        if len(tree) == 2:
            return self.leaf(letter)
        _, left, right = tree
        many = len(letters_of(left))
        if place < many:
            left = self.changed(left, place, letter)
        else:
            right = self.changed(right, place - many, letter)
        self.made += 1
        return (self.table[2][left[0]][right[0]], left, right)

    def change(self, place, letter):
        self.become(self.changed(self.tree, place, letter))

    def move(self, first, last, place):
        ahead, rest = self.cut(self.tree, first)
        moved, behind = self.cut(rest, last - first)
        ahead, behind = self.cut(self.join(ahead, behind), place)
        self.become(self.join(self.join(ahead, moved), behind))

    def back(self):
        self.tree = self.past.pop()

    def pieces(self, first, last, tree=None, begin=0):
        """The highest nodes and leaves within a slice."""
        tree = self.tree if tree is None else tree
        if tree is None or first == last:
            return []
        end = begin + len(letters_of(tree))
        if first <= begin and end <= last:
            return [(begin, end, tree[0])]
        if last <= begin or end <= first:
            return []
        middle = begin + len(letters_of(tree[1]))
        return self.pieces(first, last, tree[1], begin) + self.pieces(first, last, tree[2], middle)


class LineTest(unittest.TestCase):
    def test_constants(self):
        self.assertEqual(edits.MAX_LINE, 2000)

    def test_examples(self):
        line = Line(TABLE, ("a", "b", "a"))
        self.assertIsNone(line.put(0, "b"))
        self.assertEqual((line.tree(), line.made()), ((1, (0, (1, "b"), (0, "a")), (0, (1, "b"), (0, "a"))), 6))
        self.assertEqual((line.pieces(1, 4), line.value(1, 4), line.made()), ([(1, 2, 0), (2, 4, 0)], 1, 7))

    def agree(self, line, model):
        self.assertEqual((line.log(), line.tree(), line.made()), (model.log(), model.tree, model.made))
        if model.tree is not None:
            self.assertIsNone(judge_tree(model.table, model.log(), line.tree()))

    def edit(self, rng, line, model):
        """One change at random, or one that is taken back."""
        many = len(model.log())
        sort = rng.choice(("put", "put", "take", "change", "move", "back"))
        if sort == "put":
            place, letter = rng.randint(0, many), rng.choice(model.table[0])
            self.assertIsNone(line.put(place, letter))
            model.put(place, letter)
        elif sort == "take" and many:
            place = rng.choice((0, many - 1, rng.randrange(many)))
            self.assertEqual(line.take(place), model.take(place))
        elif sort == "change" and many:
            place, letter = rng.choice((0, many - 1, rng.randrange(many))), rng.choice(model.table[0])
            self.assertIsNone(line.change(place, letter))
            model.change(place, letter)
        elif sort == "move":
            first = rng.randint(0, many)
            last = rng.randint(first, many)
            place = rng.randint(0, many - (last - first))
            self.assertIsNone(line.move(first, last, place))
            model.move(first, last, place)
        elif sort == "back" and model.past:
            self.assertIsNone(line.back())
            model.back()

    def test_by_definition(self):
        rng = random.Random(391)
        for table in [TABLE, TURN, BRANDT, LEFT_ZERO, THREE_ROOMS] + random_tables(392, 6, 20):
            for many in (0, 1, 2, rng.randint(3, 20)):
                log = random_log(rng, table, many)
                line, model = Line(table, log), Model(table, log)
                self.agree(line, model)
                for _ in range(25):
                    self.edit(rng, line, model)
                    self.agree(line, model)
                    many = len(model.log())
                    first = rng.randint(0, many)
                    last = rng.randint(first, many)
                    pieces = model.pieces(first, last)
                    self.assertEqual(line.pieces(first, last), pieces)
                    self.assertEqual(line.made(), model.made)
                    self.assertEqual(line.value(first, last), slow_value(table, model.log()[first:last]))
                    model.made += max(0, len(pieces) - 1)
                    self.assertEqual(line.made(), model.made)

    def test_moving(self):
        # Moving a slice is to take it out, and to put it in at the place of the rest.
        log = tuple("abbab")
        for first in range(6):
            for last in range(first, 6):
                rest = log[:first] + log[last:]
                for place in range(len(rest) + 1):
                    line = Line(TURN, log)
                    line.move(first, last, place)
                    self.assertEqual(line.log(), rest[:place] + log[first:last] + rest[place:])
                    self.assertEqual(line.value(0, 5), slow_value(TURN, line.log()))

    def test_empty_line(self):
        line = Line(TABLE, ())
        self.assertEqual((line.log(), line.tree(), line.made(), line.pieces(0, 0), line.value(0, 0)), ((), None, 0, [], -1))
        for ask in (lambda: line.take(0), lambda: line.change(0, "a"), lambda: line.put(1, "a"),
                    lambda: line.pieces(0, 1), lambda: line.value(0, 1), lambda: line.move(0, 1, 0),
                    lambda: line.move(0, 0, 1)):
            with self.assertRaises(NotAllowed):
                ask()
        with self.assertRaises(Missing):
            line.back()
        line.put(0, "b")
        self.assertEqual((line.log(), line.tree(), line.made()), (("b",), (1, "b"), 0))
        self.assertEqual((line.take(0), line.log(), line.tree()), ("b", (), None))

    def test_changes_taken_back(self):
        line = Line(THREE_ROOMS, tuple("abcab"))
        trees, made = [line.tree()], line.made()
        for change in (lambda: line.put(5, "c"), lambda: line.take(0), lambda: line.change(4, "a"),
                       lambda: line.move(1, 3, 0), lambda: line.move(2, 2, 2), lambda: line.change(0, line.log()[0])):
            change()
            trees.append(line.tree())
            self.assertGreaterEqual(line.made(), made)
            made = line.made()
        for tree in trees[-2::-1]:
            self.assertIsNone(line.back())
            self.assertEqual((line.tree(), line.made()), (tree, made))
        for _ in range(2):
            with self.assertRaises(Missing):
                line.back()
        self.assertEqual((line.log(), line.made()), (tuple("abcab"), made))
        line.put(0, "a")
        line.back()
        self.assertEqual(line.log(), tuple("abcab"))

    def test_ends_and_beyond(self):
        line = Line(TABLE, tuple("abb"))
        line.put(3, "a")
        line.put(0, "b")
        line.change(4, "b")
        line.change(0, "a")
        self.assertEqual((line.log(), line.take(4), line.take(0), line.log()), (tuple("aabbb"), "b", "a", tuple("abb")))
        told = (line.tree(), line.made())
        for ask in (lambda: line.put(-1, "a"), lambda: line.put(4, "a"), lambda: line.put(0, "c"), lambda: line.put(9, "c"),
                    lambda: line.take(-1), lambda: line.take(3), lambda: line.change(-1, "a"), lambda: line.change(3, "a"),
                    lambda: line.change(0, "c"), lambda: line.change(3, "z"), lambda: line.move(-1, 1, 0),
                    lambda: line.move(0, 4, 0), lambda: line.move(2, 1, 0), lambda: line.move(0, 1, 3),
                    lambda: line.move(0, 1, -1), lambda: line.move(0, 3, 1), lambda: line.pieces(-1, 1),
                    lambda: line.pieces(0, 4), lambda: line.pieces(2, 1), lambda: line.value(-1, 1),
                    lambda: line.value(0, 4), lambda: line.value(3, 2), lambda: line.value(4, 4)):
            with self.assertRaises(NotAllowed):
                ask()
        self.assertEqual((line.tree(), line.made()), told)
        for _ in range(6):
            line.back()
        with self.assertRaises(Missing):
            line.back()

    def test_two_thousand(self):
        rng = random.Random(393)
        log = random_log(rng, THREE_ROOMS, 2000)
        line = Line(THREE_ROOMS, log)
        self.assertEqual((line.log(), line.made()), (log, 1999))
        with self.assertRaises(TooLarge):
            line.put(7, "a")
        with self.assertRaises(NotAllowed):
            line.put(7, "z")
        with self.assertRaises(NotAllowed):
            line.put(2001, "a")
        self.assertEqual((line.log(), line.made()), (log, 1999))
        for _ in range(50):
            first = rng.randint(0, 2000)
            last = rng.randint(first, 2000)
            self.assertEqual(line.value(first, last), slow_value(THREE_ROOMS, log[first:last]))
            self.assertLessEqual(len(line.pieces(first, last)), 24)
        self.assertEqual(line.take(1999), log[1999])
        line.put(0, "c")
        line.move(100, 1100, 500)
        wanted = ("c",) + log[:1999]
        wanted = wanted[:100] + wanted[1100:1500] + wanted[100:1100] + wanted[1500:]
        self.assertEqual(line.log(), wanted)
        self.assertIsNone(judge_tree(THREE_ROOMS, wanted, line.tree()))

    def test_wrong_logs(self):
        for log in (("a",) * 2001, ("z",) * 2001):
            with self.assertRaises(TooLarge):
                Line(TABLE, log)
        for log in (("c",), ("a", "b", ""), ("a",) * 1999 + ("z",)):
            with self.assertRaises(NotAllowed):
                Line(TABLE, log)

    def test_pieces_are_new(self):
        line = Line(TABLE, tuple("abb"))
        line.pieces(0, 3).clear()
        self.assertEqual(line.pieces(0, 3), [(0, 3, 0)])


if __name__ == "__main__":
    unittest.main()
