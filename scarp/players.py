"""Players: a labeller and an attack that follow their papers."""

from scarp.errors import Missing, NotAllowed
from scarp.games import judge_attack, judge_labeller, replies
from scarp.stands import Steps, start_at


class Labeller:
    """A play in which the levels are given by a labeller's paper, and the letters come from outside."""

    def __init__(self, table, kind, height, delay, starts, choices):
        judge_labeller(table, kind, height, delay, starts, choices)
        self._letters = table[0]
        self._height = height
        self._delay = delay
        self._first_levels = {window: level for window, level in starts}
        self._choices = {position: levels for position, levels in choices}
        self._steps = Steps(table, kind)
        self._came = []
        self._given = []
        # One position for each level that has been given: taking a letter back only drops the last one.
        self._positions = []
        if delay == 0:
            self._begin()

    def _begin(self):
        """Give place 0 its level, by the window that has come."""
        window = tuple(self._came)
        level = self._first_levels[window]
        self._given.append(level)
        self._positions.append((start_at(self._height, level), window))

    def _go_on(self, letter):
        """Give the next place its level, when a letter has come."""
        position = self._positions[-1]
        level = self._choices[position][self._letters.index(letter)]
        for other, behind in replies(self._steps, position, letter):
            if other == level:
                self._given.append(level)
                self._positions.append(behind)

    def give(self, letter):
        """A letter comes; return the list of the levels, none or one, that are given now."""
        if letter not in self._letters:
            raise NotAllowed("there is no such letter")
        self._came.append(letter)
        if len(self._came) < self._delay:
            return []
        if len(self._came) == self._delay:
            self._begin()
        else:
            self._go_on(letter)
        return [self._given[-1]]

    def levels(self):
        """The list of all levels that have been given."""
        return list(self._given)

    def log(self):
        """The tuple of the letters that have come."""
        return tuple(self._came)

    def finish(self):
        """A split of the log of all letters that have come, which begins with the levels given."""
        # With more letters the levels of the last places are written, too: it does not matter which ones.
        for _ in range(self._delay):
            self.give(self._letters[0])
        split = tuple(self._given)
        for _ in range(self._delay):
            self.back()
        return split

    def back(self):
        """Take the last letter back, and the level that was given with it."""
        if len(self._came) == 0:
            raise Missing("no letter has come")
        if len(self._came) >= self._delay:
            self._given.pop()
            self._positions.pop()
        self._came.pop()


class Attack:
    """A play in which the letters are given by an attack's paper, and the levels come from outside."""

    def __init__(self, table, kind, height, delay, window, rows):
        judge_attack(table, kind, height, delay, window, rows)
        self._height = height
        self._window = window
        self._paper = {(stand, seen): letter for stand, seen, letter in rows}
        self._steps = Steps(table, kind)
        self._came = list(window)
        self._answers = []
        self._position = None

    def letters(self):
        """The tuple of the letters that have come."""
        return tuple(self._came)

    def levels(self):
        """The list of the answers so far."""
        return list(self._answers)

    def _ways(self):
        """The list of the pairs of a level that can be answered now, and the position that it leads to."""
        if self._position is None:
            return [(level, (start_at(self._height, level), self._window)) for level in range(1, self._height + 1)]
        return replies(self._steps, self._position, self._came[-1])

    def options(self):
        """The ascending list of the levels that can be answered now."""
        return [level for level, _ in self._ways()]

    def answer(self, level):
        """Give the next place a level; then the next letter comes."""
        if level not in self.options():
            raise NotAllowed("this level cannot be answered")
        for other, behind in self._ways():
            if other == level:
                self._position = behind
        self._answers.append(level)
        self._came.append(self._paper[self._position])
