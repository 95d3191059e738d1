"""Tests of scarp.trees: [11.6] and [11.7]."""

import random
import unittest

from scarp.errors import BadPaper, NotAllowed
from scarp.trees import built, cut_at, joined, judge_tree
from tests.samples import BRANDT, LEFT_ZERO, THREE_ROOMS, TURN, random_log, random_tables, slow_value

TABLE = (("a", "b"), (0, 1), ((1, 0), (0, 1)))
TABLES = [TABLE, TURN, BRANDT, LEFT_ZERO, THREE_ROOMS] + random_tables(381, 4, 20)


def height(tree):
    """The height of a tree."""
    return 0 if len(tree) == 2 else 1 + max(height(tree[1]), height(tree[2]))


def letters_of(tree):
    """The letters of a tree, from left to right."""
    return (tree[1],) if len(tree) == 2 else letters_of(tree[1]) + letters_of(tree[2])


def slow_is_tree(table, log, tree):
    """Whether a value is a tree of the log, by the words of the document."""
    if letters_of(tree) != tuple(log) or not all(letter in table[0] for letter in log):
        return False
    if len(tree) == 2:
        return tree[0] == table[1][table[0].index(tree[1])]
    half = len(letters_of(tree[1]))
    if not (slow_is_tree(table, log[:half], tree[1]) and slow_is_tree(table, log[half:], tree[2])):
        return False
    return tree[0] == table[2][tree[1][0]][tree[2][0]] and abs(height(tree[1]) - height(tree[2])) <= 1


def slow_built(table, log):
    """The tree that is built of a log."""
    if len(log) == 1:
        return (table[1][table[0].index(log[0])], log[0])
    half = len(log) - len(log) // 2
    left, right = slow_built(table, log[:half]), slow_built(table, log[half:])
    return (table[2][left[0]][right[0]], left, right)


def node(table, left, right):
    """A node of two trees, and one product."""
    return (table[2][left[0]][right[0]], left, right), 1


def slow_joined(table, left, right):
    """Two trees joined, and the products, told case by case."""
    if left is None or right is None:
        return (right if left is None else left), 0
    if abs(height(left) - height(right)) <= 1:
        return node(table, left, right)
    if height(left) > height(right):
        _, a, b = left
        t, made = slow_joined(table, b, right)
        if height(t) - height(a) <= 1:
            whole, more = node(table, a, t)
            return whole, made + more
        _, c, d = t
        if height(c) <= height(d):
            inner, _ = node(table, a, c)
            return node(table, inner, d)[0], made + 2
        _, e, f = c
        return node(table, node(table, a, e)[0], node(table, f, d)[0])[0], made + 3
    _, a, b = right
    t, made = slow_joined(table, left, a)
    if height(t) - height(b) <= 1:
        return node(table, t, b)[0], made + 1
    _, c, d = t
    if height(d) <= height(c):
        return node(table, c, node(table, d, b)[0])[0], made + 2
    _, e, f = d
    return node(table, node(table, c, e)[0], node(table, f, b)[0])[0], made + 3


def slow_cut(table, tree, place):
    """The two trees of a cut, and the products."""
    if tree is None or place == 0:
        return None, tree, 0
    if place == len(letters_of(tree)):
        return tree, None, 0
    _, left, right = tree
    many = len(letters_of(left))
    if place <= many:
        ahead, behind, made = slow_cut(table, left, place)
        rest, more = slow_joined(table, behind, right)
        return ahead, rest, made + more
    ahead, behind, made = slow_cut(table, right, place - many)
    whole, more = slow_joined(table, left, ahead)
    return whole, behind, made + more


def random_tree(rng, table, tall):
    """A tree of this height, as skew as it may be."""
    if tall == 0:
        return slow_built(table, random_log(rng, table, 1))
    lower = tall - 1 if tall == 1 else rng.choice((tall - 1, tall - 2))
    parts = [random_tree(rng, table, tall - 1), random_tree(rng, table, lower)]
    rng.shuffle(parts)
    return node(table, *parts)[0]


class BuiltTest(unittest.TestCase):
    def test_examples(self):
        tree, many = built(TABLE, ("a", "b", "a"))
        self.assertEqual((tree, many), ((1, (0, (0, "a"), (1, "b")), (0, "a")), 2))
        self.assertEqual(cut_at(TABLE, tree, 1), ((0, "a"), (0, (1, "b"), (0, "a")), 1))
        self.assertEqual(joined(TABLE, tree, (1, "b")),
                         ((1, (0, (0, "a"), (1, "b")), (0, (0, "a"), (1, "b"))), 2))
        self.assertIsNone(judge_tree(TABLE, ("a", "b", "a"), tree))

    def test_lengths(self):
        rng = random.Random(382)
        for table in TABLES:
            for many in (1, 2, 3, 4, 5, 6, 7, 8, 9, 17, 33, 100):
                log = random_log(rng, table, many)
                tree, made = built(table, log)
                self.assertEqual((tree, made), (slow_built(table, log), many - 1))
                self.assertIsNone(judge_tree(table, log, tree))
                self.assertEqual(tree[0], slow_value(table, log))

    def test_two_thousand(self):
        log = random_log(random.Random(383), THREE_ROOMS, 2000)
        tree, made = built(THREE_ROOMS, log)
        self.assertEqual((made, tree[0], height(tree)), (1999, slow_value(THREE_ROOMS, log), 11))
        self.assertIsNone(judge_tree(THREE_ROOMS, log, tree))
        ahead, behind, _ = cut_at(THREE_ROOMS, tree, 777)
        self.assertIsNone(judge_tree(THREE_ROOMS, log[:777], ahead))
        self.assertIsNone(judge_tree(THREE_ROOMS, log[777:], behind))
        self.assertIsNone(judge_tree(THREE_ROOMS, log, joined(THREE_ROOMS, ahead, behind)[0]))

    def test_wrong(self):
        for log in ((), ("c",), ("a", "c", "b"), ("a", ""), ("a",) * 50 + ("z",)):
            with self.assertRaises(NotAllowed):
                built(TABLE, log)


class JoinedTest(unittest.TestCase):
    def test_heights(self):
        rng = random.Random(384)
        seen = {}
        for table in TABLES:
            for first in range(7):
                for second in range(7):
                    left, right = random_tree(rng, table, first), random_tree(rng, table, second)
                    tree, made = joined(table, left, right)
                    self.assertEqual((tree, made), slow_joined(table, left, right))
                    log = letters_of(left) + letters_of(right)
                    self.assertTrue(slow_is_tree(table, log, tree))
                    self.assertIsNone(judge_tree(table, log, tree))
                    self.assertEqual(tree[0], slow_value(table, log))
                    seen[(first - second, height(tree) - max(first, second))] = True
        for apart in range(-6, 7):
            self.assertIn((apart, 0 if abs(apart) > 1 else 1), seen)
        for apart in (-3, -2, 2, 3):
            self.assertIn((apart, 1), seen)

    def turn_of(self, left, right):
        """How two trees are put together: how much too high the joined part comes, and which part of it is higher."""
        if height(left) > height(right):
            part, (_, inner, outer) = left[1], joined(TURN, left[2], right)[0]
        else:
            part, (_, outer, inner) = right[2], joined(TURN, left, right[1])[0]
        if 1 + max(height(inner), height(outer)) <= height(part) + 1:
            return "none"
        return "simple" if height(inner) <= height(outer) else "double"

    def test_all_ways(self):
        # Each way of [11.7] is taken: no turn, a simple one and a double one, on either side.
        seen = {}
        rng = random.Random(385)
        for _ in range(400):
            first, second = rng.choice(((3, 1), (1, 3), (4, 2), (2, 4), (2, 0), (0, 2), (3, 0), (0, 3), (5, 2), (2, 5)))
            left, right = random_tree(rng, TURN, first), random_tree(rng, TURN, second)
            self.assertEqual(joined(TURN, left, right), slow_joined(TURN, left, right))
            seen[(first > second, self.turn_of(left, right))] = True
        self.assertEqual(len(seen), 6)

class CutTest(unittest.TestCase):
    def test_all_places(self):
        rng = random.Random(386)
        for table in TABLES:
            for tall in range(6):
                tree = random_tree(rng, table, tall)
                log = letters_of(tree)
                for place in range(len(log) + 1):
                    ahead, behind, made = cut_at(table, tree, place)
                    self.assertEqual((ahead, behind, made), slow_cut(table, tree, place))
                    for part, letters in ((ahead, log[:place]), (behind, log[place:])):
                        if letters:
                            self.assertTrue(slow_is_tree(table, letters, part))
                        else:
                            self.assertIsNone(part)

    def test_ends(self):
        tree, _ = built(TABLE, ("a", "b", "a"))
        self.assertEqual(cut_at(TABLE, tree, 0), (None, tree, 0))
        self.assertEqual(cut_at(TABLE, tree, 3), (tree, None, 0))
        # Between the parts of the tree nothing has to be made.
        self.assertEqual(cut_at(TABLE, tree, 2), (tree[1], tree[2], 0))
        self.assertEqual(cut_at(TABLE, (0, "a"), 0), (None, (0, "a"), 0))
        self.assertEqual(cut_at(TABLE, (0, "a"), 1), ((0, "a"), None, 0))

    def test_wrong_places(self):
        tree, _ = built(TABLE, ("a", "b", "a"))
        for place in (-1, 4, 100):
            with self.assertRaises(NotAllowed):
                cut_at(TABLE, tree, place)
        for place in (-1, 2):
            with self.assertRaises(NotAllowed):
                cut_at(TABLE, (0, "a"), place)


class JudgeTest(unittest.TestCase):
    def judged(self, table, log, tree):
        if slow_is_tree(table, log, tree):
            self.assertIsNone(judge_tree(table, log, tree))
            return True
        with self.assertRaises(BadPaper, msg=(log, tree)):
            judge_tree(table, log, tree)
        return False

    def test_each_part_wrong(self):
        rng = random.Random(387)
        told = [0, 0]
        for table in TABLES:
            for tall in (0, 1, 2, 3, 4):
                tree = random_tree(rng, table, tall)
                log = letters_of(tree)
                self.assertTrue(self.judged(table, log, tree))
                for _ in range(20):
                    told[self.judged(table, log, self.changed(rng, table, tree))] += 1
                for other in (log[1:], log + log[:1], log[::-1], log[:-1] + ("z",)):
                    if other:
                        told[self.judged(table, other, tree)] += 1
        self.assertGreater(told[0], 300)

    def changed(self, rng, table, tree):
        """A tree with some part changed."""
        if len(tree) == 3 and rng.random() < 0.6:
            if rng.random() < 0.5:
                return (tree[0], self.changed(rng, table, tree[1]), tree[2])
            return (tree[0], tree[1], self.changed(rng, table, tree[2]))
        sort = rng.randrange(3)
        if sort == 0:
            return (rng.choice((tree[0] + 1, -1, len(table[2]), rng.randrange(len(table[2])))),) + tree[1:]
        if len(tree) == 2:
            return (tree[0], rng.choice(table[0] + ("z", "")))
        return (tree[0], tree[2], tree[1]) if sort == 1 else rng.choice(tree[1:])

    def test_heights(self):
        leaf = (0, "a")
        two = node(TABLE, leaf, leaf)[0]
        three = node(TABLE, two, leaf)[0]
        self.assertTrue(self.judged(TABLE, ("a",) * 3, three))
        self.assertTrue(self.judged(TABLE, ("a",) * 3, node(TABLE, leaf, two)[0]))
        for tree in (node(TABLE, three, leaf)[0], node(TABLE, leaf, three)[0]):
            self.assertFalse(self.judged(TABLE, ("a",) * 4, tree))
        self.assertTrue(self.judged(TABLE, ("a",) * 5, node(TABLE, three, two)[0]))

    def test_letters_that_the_table_has_not(self):
        for log, tree in ((("c",), (0, "c")), (("a", "c"), (0, (0, "a"), (0, "c"))), (("c",), (1, "b")), (("",), (0, ""))):
            self.assertFalse(self.judged(TABLE, log, tree))

    def test_deep_values(self):
        # A row of nodes that is nested 60 deep is no tree; nor is one with very many leaves.
        tree = (0, "a")
        for _ in range(60):
            tree = node(TABLE, tree, (0, "a"))[0]
        self.assertFalse(self.judged(TABLE, ("a",) * 61, tree))
        tree = (0, "a")
        for _ in range(60):
            tree = node(TABLE, tree, tree)[0]
        for log in (("a",), ("a",) * 400, ("b",)):
            with self.assertRaises(BadPaper):
                judge_tree(TABLE, log, tree)


if __name__ == "__main__":
    unittest.main()
