"""Which heights are enough for one log: the sets of stands letter by letter."""

from scarp.errors import BadPaper, Missing, TooLarge
from scarp.splits import MAX_HEIGHT
from scarp.stands import Steps, freest, starts

MAX_KEPT = 60


def next_set(steps, stands, letter):
    """The set of a log with one letter more, from the set of the log."""
    return freest([behind for stand in stands for _, behind in steps.from_stand(stand, letter)])


def _sets_along(steps, log, height):
    """The sets of the empty log and of the beginnings of the log, up to the first empty one."""
    sets = [freest(starts(height))]
    # Long logs come back to the same sets: what follows a set by a letter is worked out once.
    followed = {}
    for letter in log:
        if len(sets[-1]) == 0:
            break
        key = (tuple(sets[-1]), letter)
        if key not in followed:
            followed[key] = next_set(steps, sets[-1], letter)
        if len(followed[key]) > MAX_KEPT:
            raise TooLarge("a set has too many stands")
        sets.append(list(followed[key]))
    return sets


def split_with(table, kind, log, height):
    """A split of the log, of the kind, with at most this height, None if there is none."""
    steps = Steps(table, kind)
    sets = _sets_along(steps, log, height)
    if len(sets[-1]) == 0:
        return None
    return levels_back(steps, sets, log)


def levels_back(steps, sets, log):
    """The levels of steps along a log, read from a stand of the last set back.

    There is a set of stands for each place of the log, and to each stand of a set there is a step from the set ahead.
    """
    stand = sets[-1][0]
    levels = []
    for place in range(len(log), 0, -1):
        level, stand = _step_back(steps, sets[place - 1], log[place - 1], stand)
        levels.append(level)
    levels.append(starts(len(stand)).index(stand) + 1)
    return tuple(levels[::-1])


def _step_back(steps, stands, letter, goal):
    """The level of a step that leads to the goal, and the stand of the set from which it leads there."""
    for stand in stands:
        for level, behind in steps.from_stand(stand, letter):
            if behind == goal:
                return level, stand
    return None


def shortfall(table, kind, log, height):
    """None if there is such a split, otherwise the list of the sets up to the first empty one."""
    sets = _sets_along(Steps(table, kind), log, height)
    if len(sets[-1]) == 0:
        return sets
    return None


def least_height(table, kind, log):
    """The least height with which there is a split of the kind."""
    for height in range(1, MAX_HEIGHT + 1):
        if split_with(table, kind, log, height) is not None:
            return height
    raise Missing("no height is enough for this log")


def judge_shortfall(table, kind, log, height, sets):
    """Raise BadPaper if the sets are not those that show that there is no such split."""
    if shortfall(table, kind, log, height) != sets:
        raise BadPaper("these are not the sets of the log")
