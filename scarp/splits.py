"""Splits: a level for each place of a log, and what kinds of them there are."""

from scarp.errors import BadPaper, NotAllowed
from scarp.tables import times, value_of

MAX_LEVELS = 40
MAX_HEIGHT = 4


def check_split(log, split):
    """Raise NotAllowed if a tuple of integers is not a split of the log."""
    if len(split) != len(log) + 1:
        raise NotAllowed("a split has one level for each place")
    for level in split:
        if not 1 <= level <= MAX_LEVELS:
            raise NotAllowed("a level is not from 1 to 40")


def height_of(split):
    """The height of a split."""
    return max(split)


def classes_of(split):
    """The list of the classes of a split, each an ascending list of its places."""
    classes = []
    # The classes that a later place can still join: one for each level that none lesser has ended.
    joinable = {}
    for place, level in enumerate(split):
        joinable = {other: joinable[other] for other in joinable if other <= level}
        if level not in joinable:
            joinable[level] = len(classes)
            classes.append([])
        classes[joinable[level]].append(place)
    return classes


def is_split(table, kind, log, split):
    """True if a split of the log is of the kind."""
    for places in classes_of(split):
        steps = [value_of(table, log[places[at - 1]:places[at]]) for at in range(1, len(places))]
        if not _steps_fit(table, kind, steps):
            return False
    return True


def _steps_fit(table, kind, steps):
    """True if the values from each place of a class to the next one fit the kind."""
    different = sorted(list({step: True for step in steps}))
    if kind == "good" and len(different) > 1:
        return False
    # If each step times each one is itself, a value over several steps is the first one of them:
    # so the steps alone tell what is true of all places of the class.
    for first in different:
        for second in different:
            if times(table, first, second) != first:
                return False
    return True


def judge_split(table, kind, log, height, split):
    """Raise BadPaper if a split of the log is not of the kind, or has a greater height."""
    check_split(log, split)
    if height_of(split) > height:
        raise BadPaper("the split is too high")
    if not is_split(table, kind, log, split):
        raise BadPaper("the split is not of this kind")
