"""Plays of two sides over finitely many positions: which are met, and where one side cannot go on for ever."""

from scarp.errors import TooLarge


def met_positions(begun, rows_at, most):
    """A dict of the positions that are met from some on, each with the list of its rows.

    A row is a list of pairs of a reply and the position to which it leads. TooLarge is raised for more than `most`.
    """
    known = {position: True for position in begun}
    waiting = list(known)
    met = {}
    while waiting:
        if len(known) > most:
            raise TooLarge("too many positions are met")
        position = waiting.pop()
        met[position] = rows_at(position)
        for row in met[position]:
            for _, behind in row:
                if behind not in known:
                    known[behind] = True
                    waiting.append(behind)
    return met


def lost_positions(met):
    """A dict of the positions from which one cannot go on for ever, each with the index of a row that ends it.

    The other side chooses one of the rows of a position. It is lost if in some row there is no reply, or all of
    them lead to lost positions: these stand ahead of it in the dict.
    """
    left = {}
    ahead = {position: [] for position in met}
    found = {}
    for position in met:
        for at, row in enumerate(met[position]):
            left[(position, at)] = len(row)
            for _, behind in row:
                ahead[behind].append((position, at))
            if len(row) == 0:
                found.setdefault(position, at)
    waiting = list(found)
    while waiting:
        position = waiting.pop()
        for other, at in ahead[position]:
            left[(other, at)] -= 1
            if left[(other, at)] == 0 and other not in found:
                found[other] = at
                waiting.append(other)
    return found
