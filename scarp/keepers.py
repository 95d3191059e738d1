"""Keepers: windows over a table that are kept told by a paper."""

from scarp.errors import NotAllowed
from scarp.keeping import FIRST, KeptPaper, behind_move, judge_kept, middle_of, told_row
from scarp.tables import element_of, times


class Keeper:
    """A window that is kept by a paper of the keeper; all products are counted."""

    def __init__(self, table, habit, wide, makes, asks, paper):
        judge_kept(habit, wide, makes, asks, paper)
        self._table = table
        self._habit = habit
        self._wide = wide
        self._paper = KeptPaper(paper)
        self._position = FIRST
        self._row = ()
        # The values of the stored slices.
        self._values = {}
        self._made = 0

    def push(self, letter):
        """Let a letter come."""
        if letter not in self._table[0]:
            raise NotAllowed("there is no such letter")
        self._turn("in", self._row + (letter,), 0)

    def pop(self):
        """Let the first letter go."""
        self._turn("out", self._row[1:], 1)

    def _turn(self, move, row, gone):
        """Make a move that leaves these letters, with so many gone at the beginning, and what the keeper makes then."""
        behind = behind_move(self._habit, self._wide, self._position, move)
        if behind is None:
            raise NotAllowed("this move is not possible")
        state, many, spans = behind
        values = {(first, last): self._values[(first + gone, last + gone)] for first, last in spans}
        self._row = row
        for span in self._paper.made(self._position, move):
            values[span] = self._joined_value(many, values, span)
            self._made += 1
        self._position = self._paper.goal((state, many, tuple(values)))
        self._values = {span: values[span] for span in self._position[2]}

    def _joined_value(self, many, values, span):
        """The value of a slice from those of two pieces next to each other."""
        place = middle_of(many, values, span)
        first, last = span
        return times(self._table, self._part(values, first, place), self._part(values, place, last))

    def _part(self, values, first, last):
        """The value of a letter, or of a stored slice."""
        if last == first + 1:
            return element_of(self._table, self._row[first])
        return values[(first, last)]

    def value(self):
        """The value of the window, -1 if it is empty."""
        row = told_row(self._position)
        value = -1
        for at in range(len(row) - 1):
            value = times(self._table, value, self._part(self._values, row[at], row[at + 1]))
        self._made += max(0, len(row) - 2)
        return value

    def letters(self):
        """The tuple of the letters."""
        return self._row

    def state(self):
        """The position."""
        return self._position

    def made(self):
        """The number of the products so far, those of answers among them."""
        return self._made
