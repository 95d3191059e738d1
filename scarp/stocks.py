"""Stocks: slices that are stored, and rows of them and of letters that make up other slices."""

from scarp.errors import NotAllowed

MAX_SPAN = 60
MAX_STOCK = 600
MAX_PIECES = 6


def check_span(n):
    """Raise NotAllowed if a number of letters is out of range."""
    if not 1 <= n <= MAX_SPAN:
        raise NotAllowed("the number of letters is not from 1 to 60")


def check_slices(n, spans, least):
    """Raise NotAllowed if these are not different slices, ascending, with at least so many letters each."""
    for at, (first, last) in enumerate(spans):
        if not (0 <= first and first + least <= last <= n):
            raise NotAllowed("a slice is not one of the log, or too short")
        if at > 0 and spans[at - 1] >= spans[at]:
            raise NotAllowed("the slices do not ascend")


def check_stock(n, stock):
    """Raise NotAllowed if some slices are not a stock for n letters."""
    check_span(n)
    if len(stock) > MAX_STOCK:
        raise NotAllowed("the stock has too many slices")
    check_slices(n, stock, 2)


def check_demand(n, most, asked):
    """Raise NotAllowed if this is not a demand."""
    check_span(n)
    if not 1 <= most <= MAX_PIECES:
        raise NotAllowed("the number of pieces is not from 1 to 6")
    check_slices(n, asked, 1)


def all_slices(n):
    """The ascending tuple of all slices of n letters."""
    return tuple([(first, last) for first in range(n) for last in range(first + 1, n + 1)])


def _next_places(n, stock):
    """For each place the ascending list of the places where a letter or a slice of the stock ends that begins there."""
    behind = [[place + 1] for place in range(n)]
    for first, last in stock:
        behind[first].append(last)
    return behind


def row_of(n, stock, span):
    """The row of a slice: the one with the fewest pieces, the first one of several."""
    check_slices(n, (span,), 1)
    first, last = span
    behind = _next_places(n, stock)
    fewest = {last: 0}
    for place in range(last - 1, first - 1, -1):
        fewest[place] = 1 + min([fewest[later] for later in behind[place] if later <= last])
    row = [first]
    while row[-1] != last:
        wanted = fewest[row[-1]] - 1
        row.append(min([later for later in behind[row[-1]] if later <= last and fewest[later] == wanted]))
    return tuple(row)


def piece_counts(n, stock):
    """For each place a list that has, for each place behind it, the fewest pieces from there to here; 0 for others."""
    behind = _next_places(n, stock)
    counts = []
    for first in range(n + 1):
        row = [0 for _ in range(n + 1)]
        for place in range(first, n):
            for later in behind[place]:
                if row[later] == 0 or row[place] + 1 < row[later]:
                    row[later] = row[place] + 1
        counts.append(row)
    return counts


def shortened(counts, span):
    """The fewest pieces from each place to each if a slice is stored, too."""
    first, last = span
    rows = list(counts)
    for start in range(first + 1):
        ahead = counts[start][first] + 1
        behind = [min(count, ahead + more) for count, more in zip(counts[start][last:], counts[last][last:])]
        rows[start] = counts[start][:last] + behind
    return rows


def open_slice(n, most, asked, stock):
    """The slice that is asked and not answered with the fewest letters, the first of several; None if there is none."""
    counts = piece_counts(n, stock)
    return first_open([(first, last) for first, last in asked if counts[first][last] > most])


def first_open(spans):
    """Of some slices the one with the fewest letters, the first one of several, None if there is none."""
    sized = sorted([(last - first, first, last) for first, last in spans])
    return sized[0][1:] if sized else None
