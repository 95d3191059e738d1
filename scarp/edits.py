"""Lines: logs that are edited anywhere, with a tree of stored products."""

from scarp.errors import Missing, NotAllowed, TooLarge
from scarp.tables import times
from scarp.trees import Grove, tree_tuples

MAX_LINE = 2000


class Line:
    """A log with a tree of it; all products are counted, and changes can be taken back."""

    def __init__(self, table, log):
        if len(log) > MAX_LINE:
            raise TooLarge("the line has too many letters")
        self._table = table
        self._grove = Grove(table)
        self._whole = self._grove.build(log)
        self._asked = 0
        # The trees ahead of the changes that can be taken back, the last one last.
        self._past = []

    def _size(self):
        """The number of the letters."""
        return 0 if self._whole is None else self._whole.size

    def _check_letter_at(self, place):
        """Raise NotAllowed if there is no letter at a place."""
        if not 0 <= place < self._size():
            raise NotAllowed("there is no letter at this place")

    def _check_slice(self, first, last):
        """Raise NotAllowed if there is no such slice."""
        if not 0 <= first <= last <= self._size():
            raise NotAllowed("there is no such slice")

    def _become(self, tree):
        """Make a change, which leads to this tree."""
        self._past.append(self._whole)
        self._whole = tree

    def put(self, place, letter):
        """Put a letter in at a place."""
        leaf = self._grove.leaf(letter)
        if not 0 <= place <= self._size():
            raise NotAllowed("there is no such place")
        if self._size() == MAX_LINE:
            raise TooLarge("the line would have too many letters")
        ahead, behind = self._grove.cut(self._whole, place)
        self._become(self._grove.link(self._grove.link(ahead, leaf), behind))

    def take(self, place):
        """Take the letter at a place out; return it."""
        self._check_letter_at(place)
        ahead, rest = self._grove.cut(self._whole, place)
        leaf, behind = self._grove.cut(rest, 1)
        self._become(self._grove.link(ahead, behind))
        return leaf.letter

    def change(self, place, letter):
        """Change the letter at a place."""
        self._check_letter_at(place)
        leaf = self._grove.leaf(letter)
        self._become(self._changed(self._whole, place, leaf))

    def _changed(self, tree, place, leaf):
        """A tree with another leaf at a place."""
        if tree.left is None:
            return leaf
        if place < tree.left.size:
            return self._grove.node(self._changed(tree.left, place, leaf), tree.right)
        return self._grove.node(tree.left, self._changed(tree.right, place - tree.left.size, leaf))

    def move(self, first, last, place):
        """Move a slice to a place of the rest."""
        self._check_slice(first, last)
        if not 0 <= place <= self._size() - (last - first):
            raise NotAllowed("the rest has no such place")
        grove = self._grove
        ahead, rest = grove.cut(self._whole, first)
        moved, behind = grove.cut(rest, last - first)
        ahead, behind = grove.cut(grove.link(ahead, behind), place)
        self._become(grove.link(grove.link(ahead, moved), behind))

    def back(self):
        """Take the last change back."""
        if len(self._past) == 0:
            raise Missing("there is no change")
        self._whole = self._past.pop()

    def log(self):
        """The tuple of the letters."""
        return tuple([node.letter for _, _, node in self._nodes(0, self._size(), True)])

    def tree(self):
        """The tree, None if there are no letters."""
        return tree_tuples(self._whole)

    def made(self):
        """The number of the products so far."""
        return self._grove.products_made + self._asked

    def _nodes(self, first, last, leaves):
        """The list of the highest nodes within a slice, or of its leaves, each behind its two places."""
        found = []
        waiting = [(0, self._whole)] if first < last else []
        while waiting:
            begin, node = waiting.pop()
            end = begin + node.size
            if first <= begin and end <= last and (node.left is None or not leaves):
                found.append((begin, end, node))
            elif begin < last and first < end:
                # What stands on the left is taken first.
                waiting.append((begin + node.left.size, node.right))
                waiting.append((begin, node.left))
        return found

    def pieces(self, first, last):
        """The list of the pieces of a slice, each its two places and its value."""
        self._check_slice(first, last)
        return [(begin, end, node.worth) for begin, end, node in self._nodes(first, last, False)]

    def value(self, first, last):
        """The value of a slice, -1 if it is empty."""
        parts = self.pieces(first, last)
        value = -1
        for _, _, part in parts:
            value = times(self._table, value, part)
        self._asked += max(0, len(parts) - 1)
        return value
