"""How few levels are enough for all logs: the sets of a table."""

from scarp.errors import Missing, TooLarge
from scarp.machines import least_machine
from scarp.shortfalls import MAX_KEPT, next_set
from scarp.splits import MAX_HEIGHT
from scarp.stands import Steps, freest, starts

MAX_SETS = 300


class Growth:
    """The sets of a table that are not empty, in the order of the first logs that have them.

    Of each set whose row of moves is made, the row has the number of the set to which each letter leads,
    -1 for the empty one.
    """

    def __init__(self, table, kind, height):
        self._steps = Steps(table, kind)
        self._letters = table[0]
        self.moves = []
        self.sets = []
        self._logs = []
        self._numbers = {}
        self._number_of(tuple(freest(starts(height))), ())

    def _number_of(self, stands, log):
        """The number of the set of a log, -1 if it is empty; a new one is put behind the others."""
        if len(stands) == 0:
            return -1
        if stands not in self._numbers:
            if len(self.sets) == MAX_SETS or len(stands) > MAX_KEPT:
                raise TooLarge("the sets are too many")
            self._numbers[stands] = len(self.sets)
            self.sets.append(stands)
            self._logs.append(log)
        return self._numbers[stands]

    def is_whole(self):
        """True if the moves of all sets are made."""
        return len(self.moves) == len(self.sets)

    def make_moves(self, whole):
        """Make the moves of the next set; return the first log by which they lead to the empty set, None if none does.

        If the row need not be made as a whole, it is left at this log, and the sets behind it are not looked for.
        """
        at = len(self.moves)
        first_empty = None
        row = []
        for letter in self._letters:
            log = self._logs[at] + (letter,)
            row.append(self._number_of(tuple(next_set(self._steps, self.sets[at], letter)), log))
            if row[-1] == -1 and first_empty is None:
                first_empty = log
            if first_empty is not None and not whole:
                return first_empty
        self.moves.append(tuple(row))
        return first_empty


def sets_of(table, kind, height):
    """The sets of a table and their moves if the height is enough for all logs, else the first log that needs more."""
    growth = Growth(table, kind, height)
    while not growth.is_whole():
        # What comes behind the first empty set does not matter, not even if it is too large.
        log = growth.make_moves(False)
        if log is not None:
            return ("more", log)
    return ("enough", tuple(growth.sets), tuple(growth.moves))


def least_for_all(table, kind):
    """The least height for all logs, and the first log that has no split with a lesser height."""
    log = None
    for height in range(1, MAX_HEIGHT + 1):
        answer = sets_of(table, kind, height)
        if answer[0] == "enough":
            return height, log
        log = answer[1]
    raise Missing("no height is enough for all logs")


def short_logs(table, kind, height):
    """The least machine of the logs that have a split of the kind with at most this height."""
    growth = Growth(table, kind, height)
    while not growth.is_whole():
        growth.make_moves(True)
    many = len(growth.sets)
    # The last room is that of the empty set, from which no letter leads away.
    rows = [tuple([many if to == -1 else to for to in row]) for row in growth.moves]
    rows.append(tuple([many for _ in table[0]]))
    return least_machine((table[0], tuple(rows), tuple(range(many))))
