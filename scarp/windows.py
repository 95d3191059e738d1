"""Windows by two stacks: the value of all letters that are there, while letters come and go."""

from scarp.errors import Missing, NotAllowed
from scarp.tables import element_of, times

MOVES = ("in", "out", "ask")


class Window:
    """A row of letters that come at its end and go at its beginning; all products are counted."""

    def __init__(self, table):
        self._table = table
        # The letters and the stored values of the front, the first one last, as it goes first.
        self._front = []
        self._front_values = []
        self._back = []
        self._back_value = -1
        self._made = 0

    def _times(self, first, second):
        """The product of two values, counted if there is something to be multiplied."""
        if first != -1 and second != -1:
            self._made += 1
        return times(self._table, first, second)

    def push(self, letter):
        """Let a letter come."""
        if letter not in self._table[0]:
            raise NotAllowed("there is no such letter")
        self._back.append(letter)
        self._back_value = self._times(self._back_value, element_of(self._table, letter))

    def pop(self):
        """Let the first letter go; return it."""
        if not self._front:
            self._turn()
        if not self._front:
            raise Missing("there is no letter")
        self._front_values.pop()
        return self._front.pop()

    def _turn(self):
        """Make all of the back the front."""
        value = -1
        for letter in self._back[::-1]:
            value = self._times(element_of(self._table, letter), value)
            self._front.append(letter)
            self._front_values.append(value)
        self._back = []
        self._back_value = -1

    def value(self):
        """The value of the window, -1 if it is empty."""
        front = self._front_values[-1] if self._front_values else -1
        return self._times(front, self._back_value)

    def letters(self):
        """The tuple of the letters."""
        return tuple(self._front[::-1] + self._back)

    def stored(self):
        """The tuple of the stored values of the front, and the value of the back."""
        return tuple(self._front_values[::-1]), self._back_value

    def made(self):
        """The number of the products so far."""
        return self._made


def cost_of(moves):
    """For each of some moves the number of products that it makes."""
    front = 0
    back = 0
    costs = []
    for move in moves:
        if move not in MOVES:
            raise NotAllowed("there is no such move")
        cost = 0
        if move == "in":
            cost = 1 if back > 0 else 0
            back += 1
        elif move == "ask":
            cost = 1 if front > 0 and back > 0 else 0
        else:
            if front + back == 0:
                raise Missing("there is no letter")
            if front == 0:
                cost = back - 1
                front = back
                back = 0
            front -= 1
        costs.append(cost)
    return tuple(costs)
