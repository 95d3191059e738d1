"""Growers: logs that grow, with the values of the slices that a rule stores."""

from scarp.errors import Missing, NotAllowed, TooLarge
from scarp.growing import Stored, begins_at, check_kind, check_rule, check_window, choice_at
from scarp.tables import element_of, times


class Grower:
    """A log that grows by a rule; all products are counted."""

    def __init__(self, table, kind, window, rule):
        check_kind(kind)
        check_window(window)
        check_rule(window, rule)
        self._table = table
        self._kind = kind
        self._window = window
        self._rule = rule
        self._stored = Stored(kind, window)
        # The values of the slices that are kept.
        self._values = {}
        self._made = 0

    def append(self, letter):
        """Let the next letter come."""
        if letter not in self._table[0]:
            raise NotAllowed("there is no such letter")
        last = self._stored.last + 1
        choice = choice_at(self._rule, last)
        if choice is None:
            raise TooLarge("all choices of the plan have been made")
        element = element_of(self._table, letter)
        # The pieces are multiplied as they were behind the letter before.
        fresh = {begin: self._multiplied(begin, element) for begin in begins_at(last, choice)}
        self._stored.grow(choice)
        values = {}
        for begin in self._stored.ends:
            for end in self._stored.ends[begin]:
                values[(begin, end)] = fresh[begin] if end == last else self._values[(begin, end)]
        self._values = values

    def _multiplied(self, begin, element):
        """The value of the slice from a place to behind a letter that comes; from the last place it is the letter's."""
        row = self._stored.first_row(begin)
        self._made += len(row) - 1
        return times(self._table, self._product(row), element)

    def _product(self, row):
        """The product of the values of the pieces of a row."""
        value = -1
        for at in range(len(row) - 1):
            value = times(self._table, value, self._values[(row[at], row[at + 1])])
        return value

    def place(self):
        """The last place."""
        return self._stored.last

    def kept(self):
        """The ascending list of the slices that are kept, each its two places and its value."""
        return [(first, last, self._values[(first, last)]) for first, last in sorted(list(self._values))]

    def _row_from(self, place):
        """The row of the slice from a place to the last place."""
        if place not in self._stored.ends:
            raise Missing("this slice is not asked")
        return self._stored.first_row(place)

    def value(self, x):
        """The value of the slice from a place to the last place."""
        row = self._row_from(x)
        self._made += len(row) - 2
        return self._product(row)

    def pieces(self, x):
        """The number of the pieces of the slice from a place to the last place."""
        return len(self._row_from(x)) - 1

    def products(self):
        """The number of the products that have been made so far."""
        return self._made

    def copy(self):
        """A grower that is the same."""
        other = Grower(self._table, self._kind, self._window, self._rule)
        other._stored = self._stored.twin()
        other._values = {span: self._values[span] for span in self._values}
        other._made = self._made
        return other
