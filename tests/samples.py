"""Machines, tables, logs and patterns for the tests, and slow answers straight from the document."""

import itertools
import random

from scarp.errors import TooLarge
from scarp.tables import table_of

LETTERS = ("a", "b", "c", "d")


def logs_up_to(letters, length):
    """All logs with at most so many letters, in their order."""
    return [log for many in range(length + 1) for log in itertools.product(letters, repeat=many)]


def slow_lets(pattern, log):
    """Whether a pattern lets a log by, by the words of the document."""
    head = pattern[0]
    if head == "letter":
        return log == (pattern[1],)
    if head == "any":
        return len(log) == 1
    if head == "empty":
        return log == ()
    if head == "none":
        return False
    if head == "row":
        cuts = range(len(log) + 1)
        return any(slow_lets(pattern[1], log[:at]) and slow_lets(pattern[2], log[at:]) for at in cuts)
    if head == "again":
        cuts = range(1, len(log) + 1)
        return log == () or any(slow_lets(pattern[1], log[:at]) and slow_lets(pattern, log[at:]) for at in cuts)
    if head == "and":
        return slow_lets(pattern[1], log) and slow_lets(pattern[2], log)
    if head == "or":
        return slow_lets(pattern[1], log) or slow_lets(pattern[2], log)
    return not slow_lets(pattern[1], log)


def random_pattern(rng, letters, nodes):
    """A pattern with so many nodes."""
    if nodes == 1:
        leaf = rng.choice(("letter", "letter", "letter", "any", "empty", "none"))
        return ("letter", rng.choice(letters)) if leaf == "letter" else (leaf,)
    if nodes == 2 or rng.random() < 0.3:
        return (rng.choice(("again", "not")), random_pattern(rng, letters, nodes - 1))
    left = rng.randint(1, nodes - 2)
    head = rng.choice(("row", "row", "and", "or"))
    return (head, random_pattern(rng, letters, left), random_pattern(rng, letters, nodes - 1 - left))


def row_of(pattern, many):
    """The row of a pattern so many times, grouped from the left."""
    whole = pattern
    for _ in range(many - 1):
        whole = ("row", whole, pattern)
    return whole


def random_machine(rng, rooms, letters):
    """A machine with so many rooms over so many letters."""
    moves = tuple(tuple(rng.randrange(rooms) for _ in range(letters)) for _ in range(rooms))
    granted = tuple(room for room in range(rooms) if rng.random() < 0.5)
    return (LETTERS[:letters], moves, granted)


def power_table(begin, period):
    """The table of the logs of one letter: after `begin` of them the values come again by `period`."""
    many = begin + period

    def element(letters):
        return letters - 1 if letters <= many else begin + (letters - 1 - begin) % period

    rows = tuple(tuple(element(one + other + 2) for other in range(many)) for one in range(many))
    return (("a",), (0,), rows)


def room_cycle(rooms):
    """A machine whose rooms are a ring, and which lets by at the first one."""
    return (("a",), tuple(((room + 1) % rooms,) for room in range(rooms)), (0,))


TRIVIAL = (("a",), (0,), ((0,),))
DROP = (("a",), (0,), ((1, 1), (1, 1)))
LEFT_ZERO = (("a", "b"), (0, 1), ((0, 0), (1, 1)))
RIGHT_ZERO = (("a", "b"), (0, 1), ((0, 1), (0, 1)))
BRANDT = (("a", "b"), (0, 1),
          ((2, 3, 2, 2, 0), (4, 2, 2, 1, 2), (2, 2, 2, 2, 2), (0, 2, 2, 3, 2), (2, 1, 2, 2, 4)))
TURN = table_of((("a", "b"), ((1, 0), (0, 1)), (0,)))
# All permutations of three rooms, with all that brings two of them together.
THREE_ROOMS = table_of((("a", "b", "c"), ((1, 1, 0), (2, 0, 0), (0, 2, 2)), (0,)))
# A machine with exactly 40 ways, and one with 41.
FORTY = (("a", "b", "c"), ((3, 2, 2), (1, 2, 1), (0, 0, 0), (0, 0, 1)), (0,))
FORTY_ONE = (("a", "b"), ((0, 2), (3, 1), (3, 4), (4, 0), (4, 2)), (0,))


def random_tables(seed, many, most):
    """So many different tables of machines, with at most so many elements."""
    rng = random.Random(seed)
    found = {}
    while len(found) < many:
        machine = random_machine(rng, rng.randint(1, 5), rng.randint(1, 3))
        try:
            table = table_of(machine)
        except TooLarge:
            continue
        if len(table[2]) <= most:
            found[table] = True
    return list(found)


def fixed_tables():
    """Tables with and without groups, of 1 to 40 elements."""
    named = [TRIVIAL, DROP, LEFT_ZERO, RIGHT_ZERO, BRANDT, TURN, THREE_ROOMS, table_of(FORTY)]
    return named + [power_table(2, 3), power_table(0, 40), power_table(39, 1), power_table(0, 12)]


def random_log(rng, table, many):
    """A log of so many letters of a table."""
    return tuple(rng.choice(table[0]) for _ in range(many))


def slow_value(table, log):
    """The value of a log, by the words of the document."""
    letters, firsts, products = table
    value = -1
    for letter in log:
        element = firsts[letters.index(letter)]
        value = element if value == -1 else products[value][element]
    return value


def slow_same_class(split, x, y):
    """Whether two places are in one class of a split."""
    low, high = min(x, y), max(x, y)
    return split[low] == split[high] and min(split[low:high + 1]) == split[low]


def slow_classes(split):
    """The classes of a split, by all pairs of places."""
    places = range(len(split))
    classes = [[y for y in places if slow_same_class(split, x, y)] for x in places]
    return [members for x, members in enumerate(classes) if members[0] == x]


def slow_is_split(table, kind, log, split):
    """Whether a split is of a kind, by all pairs of places of each class."""
    products = table[2]
    for places in slow_classes(split):
        values = [slow_value(table, log[x:y]) for x in places for y in places if x < y]
        if kind == "good" and any(e != values[0] or products[e][e] != e for e in values):
            return False
        if kind == "forward" and any(products[e][f] != e for e in values for f in values):
            return False
    return True


def all_splits(length, height):
    """All splits of a log of this length with at most this height."""
    return itertools.product(range(1, height + 1), repeat=length + 1)


def slow_step(table, kind, stand, letter, level):
    """The stand to which a step leads, by the words of the document."""
    products = table[2]
    element = table[1][table[0].index(letter)]
    units = [e for e in range(len(products)) if products[e][e] == e]

    def fits(unit, e):
        if kind == "good":
            return unit == e
        return products[unit][e] == unit and products[e][unit] == e

    entries = []
    for entry in stand:
        if entry:
            value, unit = entry
            entry = (element if value == -1 else products[value][element], unit)
        entries.append(entry)
    entry = entries[level - 1]
    if entry:
        value, unit = entry
        if value not in units or not (unit == -1 or fits(unit, value)):
            return None
        kept = value if kind == "good" else min(f for f in units if fits(f, value))
        entries[level - 1] = (-1, kept)
    else:
        entries[level - 1] = (-1, -1)
    return tuple(entries[:level] + [()] * (len(stand) - level))


def slow_freer(first, second):
    """Whether a stand is at least as free as another one, by the words of the document."""
    for one, other in zip(first, second):
        if one != ():
            if other == () or one[0] != other[0] or one[1] not in (-1, other[1]):
                return False
    return True


def slow_next_set(table, kind, stands, letter, height):
    """The set of a log with one letter more, from the set of the log: the freest of all stands."""
    found = {slow_step(table, kind, stand, letter, level) for stand in stands for level in range(1, height + 1)}
    found.discard(None)
    return tuple(sorted(s for s in found if not any(other != s and slow_freer(other, s) for other in found)))


def slow_starts(height):
    """The starts, by the words of the document."""
    return [((),) * (level - 1) + ((-1, -1),) + ((),) * (height - level) for level in range(1, height + 1)]
