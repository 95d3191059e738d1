"""A store: a log that grows, with patterns that are read on its slices, and patterns that bar slices."""

from scarp.errors import Missing, NotAllowed, TooLarge
from scarp.joint import MAX_READERS
from scarp.patterns import check_pattern
from scarp.patterntexts import pattern_text
from scarp.readings import Entry, Reading
from scarp.words import MAX_LOG, check_letters

MAX_NUMBER = 999999
MAX_STEADY = 3
MAX_IMAGE = 9000


class Moment:
    """A store between two changes: what its patterns tell, the letters of its log, and the numbers that come next."""

    def __init__(self, reading, row, next_read, next_bar):
        self.reading = reading
        self.row = row
        self.next_read = next_read
        self.next_bar = next_bar
        self._levels = None
        self._index = None

    def levels(self):
        """The split of the log, worked out when it is asked for first."""
        if self._levels is None:
            self._levels = self.reading.split_for(self.row)
        return self._levels

    def slices(self):
        """The index of the log, worked out when it is asked for first."""
        if self._index is None:
            self._index = self.reading.index_for(self.row, self.levels())
        return self._index


class Store:
    """Letters, a log over them, and numbered patterns."""

    def __init__(self, letters):
        check_letters(letters)
        self._letters = letters
        self._now = Moment(Reading(letters, (), (), MAX_STEADY), (), 1, 1)
        # The moments ahead of the changes that can be taken back, the last one last.
        self._past = []

    def letters(self):
        """The letters."""
        return self._letters

    def log(self):
        """The log."""
        return self._now.row

    def readers(self):
        """The ascending list of the pairs of a number and a pattern that is read."""
        return _pairs(self._now.reading.reads)

    def bars(self):
        """The ascending list of the pairs of a number and a pattern that is barred."""
        return _pairs(self._now.reading.barred)

    def table(self):
        """The table of all patterns."""
        return self._now.reading.joint

    def read(self, pattern):
        """Read a pattern; return its number."""
        now = self._now
        entry = self._new_entry(pattern, now.next_read)
        reading = self._reading(now.reading.reads + (entry,), now.reading.barred)
        self._change(Moment(reading, now.row, now.next_read + 1, now.next_bar))
        return entry.number

    def bar(self, pattern):
        """Bar a pattern; return its number."""
        now = self._now
        entry = self._new_entry(pattern, now.next_bar)
        reading = self._reading(now.reading.reads, now.reading.barred + (entry,))
        reading.check_barred(now.row)
        self._change(Moment(reading, now.row, now.next_read, now.next_bar + 1))
        return entry.number

    def _new_entry(self, pattern, number):
        """A pattern with the number that it gets."""
        check_pattern(self._letters, pattern)
        reading = self._now.reading
        if len(reading.reads) + len(reading.barred) == MAX_READERS:
            raise TooLarge("there are too many patterns")
        if number > MAX_NUMBER:
            raise TooLarge("there are no more numbers")
        return Entry(self._letters, number, pattern)

    def _reading(self, reads, barred):
        """What the entries of the two kinds tell."""
        return Reading(self._letters, reads, barred, MAX_STEADY)

    def _change(self, moment):
        """Make a change, which leads to this moment."""
        self._past.append(self._now)
        self._now = moment

    def forget(self, number):
        """Read the pattern with this number no longer."""
        now = self._now
        reading = self._reading(_without(now.reading.reads, number), now.reading.barred)
        self._change(Moment(reading, now.row, now.next_read, now.next_bar))

    def allow(self, number):
        """Bar the pattern with this number no longer."""
        now = self._now
        reading = self._reading(now.reading.reads, _without(now.reading.barred, number))
        self._change(Moment(reading, now.row, now.next_read, now.next_bar))

    def append(self, letters):
        """Put letters behind the log; return the number of its letters then."""
        for letter in letters:
            if letter not in self._letters:
                raise NotAllowed("there is no such letter")
        row = self._now.row + letters
        if len(row) > MAX_LOG:
            raise TooLarge("the log would have too many letters")
        self._now.reading.check_barred(row)
        self._change_row(row)
        return len(row)

    def extend(self, other):
        """Put the log of a store behind the log; return the number of its letters then."""
        if other.letters() != self._letters:
            raise NotAllowed("the stores do not have the same letters")
        return self.append(other.log())

    def cut(self, size):
        """Leave the first letters of the log."""
        if not 0 <= size <= len(self._now.row):
            raise NotAllowed("the log has not so many letters")
        self._change_row(self._now.row[:size])

    def _change_row(self, row):
        """Make a change to a log with these letters."""
        now = self._now
        self._change(Moment(now.reading, row, now.next_read, now.next_bar))

    def lets(self, number, first, last):
        """True if the pattern that is read with this number lets the letters of the slice by."""
        wish = self.wish(number)
        return self._now.slices().value(first, last) in wish

    def wish(self, number):
        """The wish of the pattern that is read with this number, over the table."""
        for entry, wish in zip(self._now.reading.reads, self._now.reading.wishes):
            if entry.number == number:
                return wish
        raise Missing("no pattern is read with this number")

    def levels(self):
        """The split of the log."""
        return self._now.levels()

    def steady(self):
        """The height at which the store is steady, 0 if it is not."""
        return self._now.reading.height()

    def pieces(self, first, last):
        """The list of the pieces of a slice by the split."""
        return self._now.slices().pieces(first, last)

    def changes(self):
        """The number of the changes that have not been taken back."""
        return len(self._past)

    def undo(self):
        """Take back the last change that has not been taken back."""
        if len(self._past) == 0:
            raise Missing("there is no change")
        self._now = self._past.pop()

    def image(self):
        """The image of the store."""
        now = self._now
        lines = [f"store {now.next_read} {now.next_bar}"]
        lines.extend(["letter " + word for word in self._letters])
        lines.extend([f"read {entry.number} {pattern_text(entry.pattern)}" for entry in now.reading.reads])
        lines.extend([f"bar {entry.number} {pattern_text(entry.pattern)}" for entry in now.reading.barred])
        lines.append(" ".join(("log",) + now.row))
        return "".join([line + "\n" for line in lines])


def _pairs(entries):
    """The list of the pairs of a number and a pattern."""
    return [(entry.number, entry.pattern) for entry in entries]


def _without(entries, number):
    """The entries without the one with this number."""
    others = tuple([entry for entry in entries if entry.number != number])
    if len(others) == len(entries):
        raise Missing("there is no pattern with this number")
    return others


def store_of(letters, reads, barred, row, next_numbers):
    """A store without changes, with pairs of a number and a pattern of each kind, and the numbers that come next."""
    store = Store(letters)
    read_entries = tuple([Entry(letters, number, pattern) for number, pattern in reads])
    barred_entries = tuple([Entry(letters, number, pattern) for number, pattern in barred])
    reading = Reading(letters, read_entries, barred_entries, MAX_STEADY)
    reading.check_barred(row)
    store._now = Moment(reading, row, next_numbers[0], next_numbers[1])
    return store
