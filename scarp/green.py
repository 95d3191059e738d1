"""Classes and groups: which elements of a table are multiples of one another."""

from scarp.tables import times


def _right_multiples(table, element):
    """A dict whose keys are the right multiples of an element."""
    found = {element: True}
    for product in table[2][element]:
        found[product] = True
    return found


def _left_multiples(table, element):
    """A dict whose keys are the left multiples of an element."""
    found = {element: True}
    for row in table[2]:
        found[row[element]] = True
    return found


def _multiples(table, element):
    """A dict whose keys are the multiples of an element."""
    found = {}
    for left in _left_multiples(table, element):
        found[left] = True
        for product in table[2][left]:
            found[product] = True
    return found


def _for_all(table, multiples):
    """What a function of a table and an element tells of each element."""
    return [multiples(table, element) for element in range(len(table[2]))]


def _class_among(reached, element):
    """The ascending tuple of the elements that are multiples of this one, and it of them."""
    return tuple([other for other in sorted(list(reached[element])) if element in reached[other]])


def _classes_among(reached):
    """The list of all classes, in the order of their least elements."""
    classes = [_class_among(reached, element) for element in range(len(reached))]
    return [members for element, members in enumerate(classes) if members[0] == element]


def right_class_of(table, element):
    """The right class of an element."""
    return _class_among(_for_all(table, _right_multiples), element)


def left_class_of(table, element):
    """The left class of an element."""
    return _class_among(_for_all(table, _left_multiples), element)


def both_class_of(table, element):
    """The both class of an element."""
    return _class_among(_for_all(table, _multiples), element)


def right_classes(table):
    """The list of all right classes."""
    return _classes_among(_for_all(table, _right_multiples))


def left_classes(table):
    """The list of all left classes."""
    return _classes_among(_for_all(table, _left_multiples))


def both_classes(table):
    """The list of all both classes."""
    return _classes_among(_for_all(table, _multiples))


def above(table, first, second):
    """True if the first element is above the second one."""
    return second in _multiples(table, first) and first not in _multiples(table, second)


def all_above(table):
    """For each element the ascending list of the elements above it."""
    reached = _for_all(table, _multiples)
    return [_only_above(reached, element) for element in range(len(reached))]


def _only_above(reached, element):
    """The ascending list of the elements of which this one is a multiple, but not they of it."""
    return [other for other in range(len(reached)) if element in reached[other] and other not in reached[element]]


def idempotents(table):
    """The ascending list of the idempotents."""
    return [element for element, row in enumerate(table[2]) if row[element] == element]


def unit_of(table, element):
    """The idempotent among the powers of an element."""
    power = element
    while times(table, power, power) != power:
        power = times(table, power, element)
    return power


def group_class_of(table, element):
    """The group of an element, the empty tuple if it lies in no group."""
    unit = unit_of(table, element)
    left = left_class_of(table, unit)
    group = tuple([other for other in right_class_of(table, unit) if other in left])
    return group if element in group else ()


def groups(table):
    """The ascending list of the pairs of an idempotent and its group."""
    return [(unit, group_class_of(table, unit)) for unit in idempotents(table)]
