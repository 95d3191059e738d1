"""Tables of products: what finite readers can tell of logs."""

from scarp.errors import NotAllowed, TooLarge
from scarp.words import check_letters

MAX_ELEMENTS = 40


def check_table(table):
    """Raise NotAllowed if a triple is not a table."""
    letters, firsts, products = table
    check_letters(letters)
    many = len(products)
    if not 1 <= many <= MAX_ELEMENTS:
        raise NotAllowed("a table has 1 to 40 elements")
    _check_row(firsts, len(letters), many)
    for row in products:
        _check_row(row, many, many)
    if not _is_associative(products):
        raise NotAllowed("the products are not associative")
    if _grown(firsts, lambda first, second: products[first][second]) != list(range(many)):
        raise NotAllowed("the elements are not those of logs, in the order of their least logs")


def _check_row(row, length, many):
    """Raise NotAllowed if a row is not of this length, or has a number that is no element."""
    if len(row) != length:
        raise NotAllowed("a row of the table has a wrong length")
    for element in row:
        if not 0 <= element < many:
            raise NotAllowed("the table has a number that is no element")


def _is_associative(products):
    """True if it does not matter which product of three elements is made first."""
    for row in products:
        for second, product in enumerate(row):
            # Row of (x y) against x times each y z, for all z at once.
            if products[product] != tuple([row[later] for later in products[second]]):
                return False
    return True


def times(table, first, second):
    """The product of two elements, each of which may be -1."""
    if first == -1:
        return second
    if second == -1:
        return first
    return table[2][first][second]


def element_of(table, letter):
    """The element of a letter."""
    return table[1][table[0].index(letter)]


def value_of(table, log):
    """The value of a log of any length."""
    value = -1
    for letter in log:
        value = times(table, value, element_of(table, letter))
    return value


def least_logs(table):
    """The list of the least logs that have the elements as their values."""
    letters, firsts, products = table
    logs = {}
    for at, letter in enumerate(letters):
        logs.setdefault(firsts[at], (letter,))
    # Elements are numbered by their least logs: the log of each one is there when it is its turn.
    for element, row in enumerate(products):
        for at, letter in enumerate(letters):
            logs.setdefault(row[firsts[at]], logs[element] + (letter,))
    return [logs[element] for element in range(len(products))]


def grown_table(letters, starts, multiply):
    """The table that some values of the letters make, and the list of the values of its elements."""
    found = _grown(starts, multiply)
    numbers = {value: number for number, value in enumerate(found)}
    firsts = tuple([numbers[value] for value in starts])
    products = tuple([tuple([numbers[multiply(first, second)] for second in found]) for first in found])
    return (letters, firsts, products), found


def _grown(starts, multiply):
    """The values of all logs, in the order of the least logs that have them."""
    found = []
    known = {}
    for value in starts:
        if value not in known:
            known[value] = True
            found.append(value)
    at = 0
    while at < len(found):
        for start in starts:
            value = multiply(found[at], start)
            if value not in known:
                known[value] = True
                found.append(value)
                if len(found) > MAX_ELEMENTS:
                    raise TooLarge("there are too many elements")
        at += 1
    return found


def table_of(machine):
    """The table of a machine."""
    table, _ = _ways_of(machine)
    return table


def let_by(machine):
    """The ascending list of the values of the logs that the machine lets by."""
    _, ways = _ways_of(machine)
    values = [-1] if 0 in machine[2] else []
    return values + [element for element, way in enumerate(ways) if way[0] in machine[2]]


def _ways_of(machine):
    """The table of a machine, and for each element the rooms to which its logs lead."""
    letters, moves, _ = machine
    starts = [tuple([row[at] for row in moves]) for at in range(len(letters))]
    return grown_table(letters, starts, lambda first, second: tuple([second[room] for room in first]))


def paired(first, second):
    """The table that tells the values of logs in two tables, and the list of the pairs of values."""
    if first[0] != second[0]:
        raise NotAllowed("the tables do not have the same letters")

    def multiply(one, other):
        return (first[2][one[0]][other[0]], second[2][one[1]][other[1]])

    starts = [(first[1][at], second[1][at]) for at in range(len(first[0]))]
    return grown_table(first[0], starts, multiply)
