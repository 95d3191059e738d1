"""Trees of stored products: logs whose nodes store values, built, joined and cut."""

from scarp.errors import BadPaper, NotAllowed
from scarp.tables import element_of, times


class Node:
    """A leaf or a node of a tree, with its number of letters and its height; it is never changed."""

    def __init__(self, worth, letter, left, right):
        self.worth = worth
        # A leaf has a letter and no parts, a node the other way round.
        self.letter = letter
        self.left = left
        self.right = right
        self.size = 1 if left is None else left.size + right.size
        self.tall = 0 if left is None else 1 + max(left.tall, right.tall)


class Grove:
    """The trees over a table, with the number of the products that making nodes took."""

    def __init__(self, table):
        self._table = table
        self.products_made = 0

    def leaf(self, letter):
        """The leaf of a letter."""
        if letter not in self._table[0]:
            raise NotAllowed("there is no such letter")
        return Node(element_of(self._table, letter), letter, None, None)

    def node(self, left, right):
        """The node of two trees."""
        self.products_made += 1
        return Node(times(self._table, left.worth, right.worth), None, left, right)

    def build(self, row):
        """The tree that is built of letters, None for none."""
        if len(row) == 0:
            return None
        if len(row) == 1:
            return self.leaf(row[0])
        half = (len(row) + 1) // 2
        return self.node(self.build(row[:half]), self.build(row[half:]))

    def link(self, first, second):
        """The tree of two trees, each of which may be None."""
        if first is None or second is None:
            return second if first is None else first
        if first.tall > second.tall + 1:
            return self._beside_left(first.left, self.link(first.right, second))
        if second.tall > first.tall + 1:
            return self._beside_right(self.link(first, second.left), second.right)
        return self.node(first, second)

    def _beside_left(self, part, grown):
        """The tree of a part and, behind it, a tree that may have become too high for it."""
        if grown.tall <= part.tall + 1:
            return self.node(part, grown)
        inner, outer = grown.left, grown.right
        if inner.tall <= outer.tall:
            return self.node(self.node(part, inner), outer)
        return self.node(self.node(part, inner.left), self.node(inner.right, outer))

    def _beside_right(self, grown, part):
        """The tree of a tree that may have become too high, and a part behind it."""
        if grown.tall <= part.tall + 1:
            return self.node(grown, part)
        outer, inner = grown.left, grown.right
        if inner.tall <= outer.tall:
            return self.node(outer, self.node(inner, part))
        return self.node(self.node(outer, inner.left), self.node(inner.right, part))

    def cut(self, tree, place):
        """The trees of the first letters of a tree and of the rest, None for no letters."""
        if place == 0:
            return None, tree
        if place == tree.size:
            return tree, None
        if place <= tree.left.size:
            ahead, behind = self.cut(tree.left, place)
            return ahead, self.link(behind, tree.right)
        ahead, behind = self.cut(tree.right, place - tree.left.size)
        return self.link(tree.left, ahead), behind

    def read(self, tree):
        """A tree from its tuples."""
        if len(tree) == 2:
            return Node(tree[0], tree[1], None, None)
        left = self.read(tree[1])
        return Node(tree[0], None, left, self.read(tree[2]))


def tree_tuples(tree):
    """The tuples of a tree, None for None."""
    if tree is None:
        return None
    if tree.left is None:
        return (tree.worth, tree.letter)
    return (tree.worth, tree_tuples(tree.left), tree_tuples(tree.right))


def built(table, log):
    """The tree that is built of a log, and the number of products."""
    grove = Grove(table)
    tree = grove.build(log)
    if tree is None:
        raise NotAllowed("the log is empty")
    return tree_tuples(tree), grove.products_made


def joined(table, first, second):
    """The tree of two trees, and the number of products."""
    grove = Grove(table)
    tree = grove.link(grove.read(first), grove.read(second))
    return tree_tuples(tree), grove.products_made


def cut_at(table, tree, place):
    """The trees of the first letters and of the rest, None for no letters, and the number of products."""
    grove = Grove(table)
    whole = grove.read(tree)
    if not 0 <= place <= whole.size:
        raise NotAllowed("the tree has no such place")
    ahead, behind = grove.cut(whole, place)
    return tree_tuples(ahead), tree_tuples(behind), grove.products_made


def judge_tree(table, log, tree):
    """Raise BadPaper if a value is not a tree of the log."""
    _, end = _judged(table, log, tree, 0)
    if end != len(log):
        raise BadPaper("the tree has too few letters")


def _judged(table, log, tree, begin):
    """The height of a tree of the letters of a log from a place on, and the place behind them."""
    if len(tree) == 2:
        value, letter = tree
        # The letters are counted on the way, so that a wrong tree is not read further than the log is long.
        if begin >= len(log) or log[begin] != letter or letter not in table[0] or element_of(table, letter) != value:
            raise BadPaper("a leaf is not that of the next letter")
        return 0, begin + 1
    value, left, right = tree
    left_tall, middle = _judged(table, log, left, begin)
    right_tall, end = _judged(table, log, right, middle)
    if not -1 <= left_tall - right_tall <= 1:
        raise BadPaper("the heights differ by more than 1")
    if times(table, left[0], right[0]) != value:
        raise BadPaper("a value is not the product of the two below it")
    return 1 + max(left_tall, right_tall), end
