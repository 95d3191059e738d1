"""Building good splits that keep to the bound of the table."""

from scarp.green import both_classes, idempotents, left_classes, right_classes
from scarp.tables import element_of


class Shape:
    """What a table tells of the classes of its elements, worked out once for a whole log."""

    def __init__(self, table):
        self.rows = table[2]
        self.units = idempotents(table)
        self.both = _class_numbers(both_classes(table))
        self.left = _class_numbers(left_classes(table))
        self.right = _class_numbers(right_classes(table))

    def product_of(self, values):
        """The product of some values, each an element or -1."""
        product = -1
        for value in values:
            if product == -1:
                product = value
            elif value != -1:
                product = self.rows[product][value]
        return product

    def lowest(self):
        """An element of the lowest both class, of which all elements have multiples."""
        return self.product_of(list(range(len(self.rows))))

    def unit_at(self, before, behind):
        """An idempotent in the left class of what ends at a place, and the right class of what begins there.

        What is not there is -1. Without such an idempotent the answer is -1.
        """
        for unit in self.units:
            fits_before = before == -1 or self.left[unit] == self.left[before]
            fits_behind = behind == -1 or self.right[unit] == self.right[behind]
            if fits_before and fits_behind:
                return unit
        return -1


def _class_numbers(classes):
    """A dict with the number of the class of each element."""
    numbers = {}
    for number, members in enumerate(classes):
        for element in members:
            numbers[element] = number
    return numbers


def split_of(table, log):
    """A good split of the log whose height is at most the table's bound.

    A stretch of places is cut wherever the value from the cut before has come down to a both class.
    Then all values between cuts lie in this class, so that its cuts need no more levels than it has
    elements in groups, and what lies between two cuts is a stretch of a class above. For the whole
    log it is the lowest class of the table. The first place of every other stretch is a cut already.
    """
    shape = Shape(table)
    values = [element_of(table, letter) for letter in log]
    levels = {}
    cuts, steps = _cuts_of(shape, values, 0, len(log), shape.lowest())
    top = _settle(levels, cuts, _keys_of(shape, steps), 0)
    waiting = _stretches(cuts, len(log), top)
    while waiting:
        first, last, base = waiting.pop()
        cuts, steps = _cuts_of(shape, values, first, last, shape.product_of(values[first:last]))
        top = _settle(levels, cuts[1:], _keys_of(shape, steps)[1:], base)
        waiting.extend(_stretches(cuts, last, top))
    return tuple([levels[place] for place in range(len(log) + 1)])


def _cuts_of(shape, values, first, last, low):
    """The places at which a stretch is cut, and the values between them, in the both class of `low`."""
    cuts = [first]
    steps = []
    value = -1
    for place in range(first, last):
        value = shape.product_of([value, values[place]])
        if shape.both[value] == shape.both[low]:
            cuts.append(place + 1)
            steps.append(value)
            value = -1
    return cuts, steps


def _keys_of(shape, steps):
    """A key for each cut: between cuts with the same key, the value is one and the same idempotent.

    The key has an idempotent, so that the values between cuts with the same one lie in its group, and
    the value from the first of them to this cut. The latter stays equal only by the group's unit.
    """
    keys = []
    behind = {}
    for at in range(len(steps) + 1):
        before = steps[at - 1] if at > 0 else -1
        behind = {key: shape.product_of([behind[key], before]) for key in behind}
        unit = shape.unit_at(before, steps[at] if at < len(steps) else -1)
        value = behind.setdefault(unit, -1)
        keys.append((unit, unit if value == -1 else value))
    return keys


def _settle(levels, cuts, keys, base):
    """Give the cuts levels above the base, the same for the same key; return the greatest one."""
    numbers = {}
    for at, place in enumerate(cuts):
        number = numbers.setdefault(keys[at], len(numbers) + 1)
        levels[place] = base + number
    return base + len(numbers)


def _stretches(cuts, last, base):
    """The list of the stretches from each cut to ahead of the next one, where there are places between."""
    found = []
    for at, first in enumerate(cuts):
        end = cuts[at + 1] - 1 if at + 1 < len(cuts) else last
        if end > first:
            found.append((first, end, base))
    return found
