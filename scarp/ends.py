"""Ends: where slices begin and end whose values are wished for, and cuttings into such slices."""

from scarp.errors import NotAllowed
from scarp.tables import element_of, times


def check_wish(table, wish):
    """Raise NotAllowed if a tuple of integers is not a wish over the table."""
    least = -1
    for value in wish:
        if not least <= value < len(table[2]):
            raise NotAllowed("the wish does not ascend, or has a number that is no element")
        least = value + 1


def _check_place(log, place):
    """Raise NotAllowed if this is no place of the log."""
    if not 0 <= place <= len(log):
        raise NotAllowed("the log has no such place")


def _ends_from(table, log, wish, start):
    """The ascending list of the places at which a slice ends that begins here and fits."""
    value = -1
    ends = [start] if value in wish else []
    for place in range(start, len(log)):
        value = times(table, value, element_of(table, log[place]))
        if value in wish:
            ends.append(place + 1)
    return ends


def _starts_to(table, log, wish, end):
    """The ascending list of the places at which a slice begins that ends here and fits."""
    value = -1
    begins = [end] if value in wish else []
    for place in range(end - 1, -1, -1):
        value = times(table, element_of(table, log[place]), value)
        if value in wish:
            begins.append(place)
    return begins[::-1]


def first_end(table, log, wish, start):
    """The first place at which a slice ends that begins here and fits, -1 if there is none."""
    _check_place(log, start)
    ends = _ends_from(table, log, wish, start)
    return ends[0] if ends else -1


def last_end(table, log, wish, start):
    """The last place at which a slice ends that begins here and fits, -1 if there is none."""
    _check_place(log, start)
    ends = _ends_from(table, log, wish, start)
    return ends[-1] if ends else -1


def first_start(table, log, wish, end):
    """The first place at which a slice begins that ends here and fits, -1 if there is none."""
    _check_place(log, end)
    begins = _starts_to(table, log, wish, end)
    return begins[0] if begins else -1


def last_start(table, log, wish, end):
    """The last place at which a slice begins that ends here and fits, -1 if there is none."""
    _check_place(log, end)
    begins = _starts_to(table, log, wish, end)
    return begins[-1] if begins else -1


def count_slices(table, log, wish):
    """The number of the slices of the log that fit."""
    # Behind each letter it is only kept how many slices that end there have which value.
    ending = {-1: 1}
    total = 1 if -1 in wish else 0
    for letter in log:
        element = element_of(table, letter)
        longer = {-1: 1}
        for value in ending:
            product = times(table, value, element)
            longer[product] = longer.get(product, 0) + ending[value]
        ending = longer
        total += sum([ending[value] for value in wish if value in ending])
    return total


def shortest(table, log, wish):
    """The slice that fits with the fewest letters, the first one of several, None if none fits."""
    best = None
    for start in range(len(log) + 1):
        end = first_end(table, log, wish, start)
        if end != -1 and (best is None or end - start < best[1] - best[0]):
            best = (start, end)
    return best


def longest(table, log, wish):
    """The slice that fits with the most letters, the first one of several, None if none fits."""
    best = None
    for start in range(len(log) + 1):
        end = last_end(table, log, wish, start)
        if end != -1 and (best is None or end - start > best[1] - best[0]):
            best = (start, end)
    return best


def cutting(table, log, wish):
    """The cutting of the log that fits with the fewest places, the first one of several, None if none fits."""
    last = len(log)
    # For each place from which the rest can be cut: how many slices it takes, and where the first one ends.
    fewest = {last: 0}
    behind = {}
    for start in range(last - 1, -1, -1):
        for end in _ends_from(table, log, wish, start):
            if end > start and end in fewest and (start not in fewest or fewest[end] + 1 < fewest[start]):
                fewest[start] = fewest[end] + 1
                behind[start] = end
    if 0 not in fewest:
        return None
    places = [0]
    while places[-1] != last:
        places.append(behind[places[-1]])
    return places
