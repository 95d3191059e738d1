"""An index: values that are stored once, from which the value of each slice of a log is made."""

from scarp.errors import NotAllowed
from scarp.splits import check_split, classes_of, is_split
from scarp.tables import element_of, times


class Index:
    """The stored values of one log with a split, asked about its slices."""

    def __init__(self, table, kind, log, split):
        check_split(log, split)
        if not is_split(table, kind, log, split):
            raise NotAllowed("the split is not of this kind")
        self._table = table
        self._many = len(split)
        # Beside the log stand two places of no log, lower than all others and with no letter between.
        self._levels = {-1: 0, len(split): 0}
        self._letters = {-1: -1, len(log): -1}
        for place, level in enumerate(split):
            self._levels[place] = level
        for place, letter in enumerate(log):
            self._letters[place] = element_of(table, letter)
        self._right = {}
        self._right_value = {}
        self._step = {}
        self._left = {}
        self._left_value = {}
        for place in range(self._many - 1, -1, -1):
            self._store_right(place)
        for place in range(self._many):
            self._store_left(place)
        self._classes = classes_of(split)
        self._class_numbers = {}
        for number, places in enumerate(self._classes):
            for place in places:
                self._class_numbers[place] = number

    def _store_right(self, place):
        """Store the step of a place, and where its lower place to the right is, from those behind it."""
        at = place + 1
        value = self._letters[place]
        while self._levels[at] > self._levels[place]:
            value = times(self._table, value, self._right_value[at])
            at = self._right[at]
        self._step[place] = -1
        if self._levels[at] == self._levels[place]:
            self._step[place] = value
            value = times(self._table, value, self._right_value[at])
            at = self._right[at]
        self._right[place] = at
        self._right_value[place] = value

    def _store_left(self, place):
        """Store where the lower place to the left of a place is, from those ahead of it."""
        at = place - 1
        value = self._letters[at]
        while self._levels[at] >= self._levels[place]:
            value = times(self._table, self._left_value[at], value)
            at = self._left[at]
        self._left[place] = at
        self._left_value[place] = value

    def _check_place(self, place):
        """Raise NotAllowed if this is no place of the log."""
        if not 0 <= place < self._many:
            raise NotAllowed("the log has no such place")

    def value(self, first, last):
        """The value of a slice."""
        value = -1
        for _, _, part in self.pieces(first, last):
            value = times(self._table, value, part)
        return value

    def pieces(self, first, last):
        """The list of the pieces of a slice, each its two places and its value."""
        self._check_place(first)
        self._check_place(last)
        if first > last:
            raise NotAllowed("the slice ends ahead of its beginning")
        begun = []
        while self._right[first] <= last:
            begun.append((first, self._right[first], self._right_value[first]))
            first = self._right[first]
        ended = []
        while self._left[last] >= first:
            ended.append((self._left[last], last, self._left_value[last]))
            last = self._left[last]
        # Between places of one class the value is the step of the first one, however many lie between.
        between = [(first, last, self._step[first])] if first < last else []
        return begun + between + ended[::-1]

    def lower_right(self, place):
        """The lower place to the right of a place, -1 if there is none."""
        self._check_place(place)
        return self._right[place] if self._right[place] < self._many else -1

    def lower_left(self, place):
        """The lower place to the left of a place, -1 if there is none."""
        self._check_place(place)
        return self._left[place]

    def class_at(self, place):
        """The ascending list of the places of the class of a place."""
        self._check_place(place)
        return list(self._classes[self._class_numbers[place]])

    def step_at(self, place):
        """The step of a place, -1 if it is the last one of its class."""
        self._check_place(place)
        return self._step[place]
