"""Logs that are not seen: which ones are possible by reports of the values of some of their slices."""

from scarp.errors import Missing, NotAllowed, TooLarge
from scarp.stocks import check_slices
from scarp.tables import element_of, times

MAX_HIDDEN = 40
MAX_REPORTS = 40
MAX_WRONG = 2
MAX_HELD = 200


def check_hidden(n):
    """Raise NotAllowed if a number of letters is out of range."""
    if not 1 <= n <= MAX_HIDDEN:
        raise NotAllowed("the number of letters is not from 1 to 40")


def check_reports(table, n, reports):
    """Raise NotAllowed if some triples are not reports."""
    check_hidden(n)
    if len(reports) > MAX_REPORTS:
        raise NotAllowed("there are too many reports")
    check_slices(n, [(first, last) for first, last, _ in reports], 1)
    for _, _, value in reports:
        if not 0 <= value < len(table[2]):
            raise NotAllowed("a report has a value that is no element")


def _check_wrong(wrong):
    """Raise NotAllowed if a number of wrong reports is out of range."""
    if not 0 <= wrong <= MAX_WRONG:
        raise NotAllowed("the number of wrong reports is not from 0 to 2")


class Held:
    """What is held at each place to read the possible logs: rows of a number of wrong reports and of values.

    If a slice is asked, it is held behind the reports.
    """

    def __init__(self, table, n, reports, wrong, asked):
        self._table = table
        self._wrong = wrong
        # The slices that are held, each with the value that it is to have, -1 for what is only asked.
        self._spans = list(reports) + [(first, last, -1) for first, last in asked]
        # For each place the rows that can come there, each with those behind each letter, None if too much is wrong.
        self.moves = []
        rows = {(0,): True}
        for place in range(n):
            ahead = {row: self._moves_from(place, row) for row in rows}
            self.moves.append(ahead)
            rows = {behind: True for row in ahead for behind in ahead[row] if behind is not None}
            if len(rows) > MAX_HELD:
                raise TooLarge("too much is held")
        # For each place and row the number of ways to go on to the end.
        self.ways = [{row: 1 for row in rows}]
        for ahead in self.moves[::-1]:
            self.ways.append(self._ways_ahead(ahead, self.ways[-1]))
        self.ways = self.ways[::-1]

    def _moves_from(self, place, row):
        """The list of the rows behind one letter more, for each letter, None if too many reports are wrong."""
        spans = [span for span in self._spans if span[0] <= place < span[1]]
        return [self._moved(place, spans, row, element_of(self._table, letter)) for letter in self._table[0]]

    def _moved(self, place, spans, row, element):
        """The row behind one letter more, None if too many reports are wrong."""
        wrong = row[0]
        held = []
        at = 1
        for first, last, told in spans:
            value = element
            if first < place:
                value = times(self._table, row[at], element)
                at += 1
            if place + 1 < last:
                held.append(value)
            elif told not in (-1, value):
                wrong += 1
        return (wrong,) + tuple(held) if wrong <= self._wrong else None

    def _ways_ahead(self, ahead, behind):
        """The numbers of ways from the rows of a place, from those of the next one."""
        return {row: sum([behind[to] for to in ahead[row] if to is not None]) for row in ahead}

    def steps(self, place, row):
        """The list of the pairs of a letter and the row behind it, in the order of the letters, on ways to the end."""
        rows = [(letter, to) for letter, to in zip(self._table[0], self.moves[place][row]) if to is not None]
        return [(letter, to) for letter, to in rows if self.ways[place + 1][to] > 0]


def count_logs(table, n, reports, wrong):
    """The number of the possible logs."""
    _check_wrong(wrong)
    return Held(table, n, reports, wrong, ()).ways[0][(0,)]


def log_at(table, n, reports, wrong, index):
    """The possible log with this number, in order, from 0 on."""
    _check_wrong(wrong)
    held = Held(table, n, reports, wrong, ())
    row = (0,)
    if not 0 <= index < held.ways[0][row]:
        raise Missing("there are not so many possible logs")
    log = []
    for place in range(n):
        letter, row, index = _step_to(held, place, row, index)
        log.append(letter)
    return tuple(log)


def _step_to(held, place, row, index):
    """The letter behind a place of the log with a number, the row behind it, and the number among those with both."""
    for letter, behind in held.steps(place, row):
        if index < held.ways[place + 1][behind]:
            return letter, behind, index
        index -= held.ways[place + 1][behind]
    return None


def letters_at(table, n, reports, wrong, place):
    """The tuple of the letters that stand behind the place in some possible log."""
    _check_wrong(wrong)
    if not 0 <= place < n:
        raise NotAllowed("there is no letter behind this place")
    held = Held(table, n, reports, wrong, ())
    found = {letter: True for row in held.moves[place] for letter, _ in held.steps(place, row)}
    return tuple([letter for letter in table[0] if letter in found])


def values_between(table, n, reports, wrong, first, last):
    """The ascending tuple of the values that the slice has in some possible log."""
    _check_wrong(wrong)
    check_slices(n, ((first, last),), 1)
    held = Held(table, n, reports, wrong, ((first, last),))
    found = {}
    for row in held.moves[last - 1]:
        # The slice is held at the end of the row, from its first letter on.
        value = row[-1] if first < last - 1 else -1
        for letter, _ in held.steps(last - 1, row):
            found[times(table, value, element_of(table, letter))] = True
    return tuple(sorted(list(found)))
