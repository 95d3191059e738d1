"""What follows from the patterns of a store alone: their table, what they bar, and how splits are made."""

from scarp.builds import split_of
from scarp.errors import Broken, TooLarge
from scarp.games import play_of
from scarp.index import Index
from scarp.joint import joint_table
from scarp.machines import machine_of
from scarp.players import Labeller
from scarp.tables import element_of, times


class Entry:
    """A pattern with its number and its least machine."""

    def __init__(self, letters, number, pattern):
        self.number = number
        self.pattern = pattern
        self.machine = machine_of(letters, pattern)


class Reading:
    """The patterns that a store reads and bars, each kind a tuple of entries in ascending order of the numbers.

    It is steady at a height up to `most` only.
    """

    def __init__(self, letters, reads, barred, most):
        self.reads = reads
        self.barred = barred
        table, wishes = joint_table(letters, [entry.machine for entry in reads + barred])
        self.joint = table
        self.wishes = wishes[:len(reads)]
        # For each value that is barred the least number of a pattern that bars it.
        self._bars = {}
        for entry, wish in zip(barred, wishes[len(reads):]):
            for value in wish:
                self._bars.setdefault(value, entry.number)
        self._most = most
        self._height = None
        self._labeller = None

    def check_barred(self, log):
        """Raise Broken if a slice of the log is barred."""
        # Of the slices that end at a place and have the same value, only the one that begins first matters.
        ending = {}
        for place in range(len(log) + 1):
            if place > 0:
                ending = self._longer(ending, log[place - 1])
            ending[-1] = place
            barred = sorted([(ending[value], self._bars[value]) for value in ending if value in self._bars])
            if barred:
                start, number = barred[0]
                raise Broken(number, start, place)

    def _longer(self, ending, letter):
        """Where the first slices begin that end behind a letter, by their values, from those that end ahead of it."""
        element = element_of(self.joint, letter)
        longer = {}
        for value in ending:
            product = times(self.joint, value, element)
            longer[product] = min(ending[value], longer.get(product, ending[value]))
        return longer

    def height(self):
        """The height at which a store with these patterns is steady, 0 if it is not."""
        # This may take long, so it is worked out when it is asked for, and only once.
        if self._height is None:
            self._height = 0
            play = _first_play(self.joint, self._most)
            if play is not None:
                self._height, starts, choices = play
                self._labeller = Labeller(self.joint, "forward", self._height, 0, starts, choices)
        return self._height

    def split_for(self, log):
        """The split that a store with these patterns has for a log."""
        if self.height() == 0:
            return split_of(self.joint, log)
        for letter in log:
            self._labeller.give(letter)
        split = tuple(self._labeller.levels())
        for _ in log:
            self._labeller.back()
        return split

    def index_for(self, log, split):
        """The index of a log with this split."""
        return Index(self.joint, "good" if self.height() == 0 else "forward", log, split)


def _first_play(table, most):
    """The least height up to `most` for which levels can be written at once, and the paper; None if none is found."""
    for height in range(1, most + 1):
        try:
            play = play_of(table, "forward", height, 0)
        except TooLarge:
            return None
        if play[0] == "labeller":
            return height, play[1], play[2]
    return None
