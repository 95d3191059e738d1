"""Growing logs for the tests: slow answers, by the words of the document, from all that is stored at any time."""

import functools
import itertools


def stored_slices(kind, choices):
    """The slices that are stored behind the last letter, as a tuple, by all choices that were made."""
    found = []
    for y, choice in enumerate(choices, 1):
        fresh = [(y - 1, y)] + [(y - offset, y) for offset in choice if offset <= y]
        if kind == "one":
            found = [span for span in found if span[0] not in [first for first, _ in fresh]]
        found = found + fresh
    return tuple(sorted(found))


@functools.lru_cache(maxsize=None)
def least_pieces(spans, x, y):
    """The least number of stored slices that follow one another from x to y."""
    if x == y:
        return 0
    return 1 + min(least_pieces(spans, end, y) for first, end in spans if first == x and end <= y)


def all_rows(spans, x, y):
    """All rows of stored slices from x to y."""
    if x == y:
        return [(y,)]
    return [(x,) + row for first, end in spans if first == x and end <= y for row in all_rows(spans, end, y)]


def first_row(spans, x, y):
    """The row of the least number of pieces that goes as far as it can with each of them."""
    rows = all_rows(spans, x, y)
    least = min(len(row) for row in rows)
    return max(row for row in rows if len(row) == least)


def asked_places(window, y):
    """The places from which slices are asked when y is the last place."""
    return range(max(0, y - window), y)


def slow_state(kind, window, choices):
    """The state behind so many letters."""
    y = len(choices)
    q = min(y, window - 1)
    if kind == "many":
        return tuple(tuple(least_pieces(stored_slices(kind, choices[:p]), x, p) for x in range(y - q, p))
                     for p in range(y - q + 1, y + 1))
    ends = dict(stored_slices(kind, choices))
    return tuple(y - ends[x] for x in range(y - q, y))


def most_pieces(kind, window, choices):
    """The most pieces of a slice that is asked behind the last letter."""
    spans = stored_slices(kind, choices)
    return max(least_pieces(spans, x, len(choices)) for x in asked_places(window, len(choices)))


def slow_full_choices(kind, window, backs, y):
    """The full choices, in the order of tuples."""
    offsets = range(2, min(y, window) + 1)
    wanted = min(backs, len(offsets))
    sizes = [wanted] if kind == "many" else range(wanted + 1)
    return sorted(choice for size in sizes for choice in itertools.combinations(offsets, size))


def rule_choices(rule, many):
    """The first so many choices of a rule, or all of a plan, if these are fewer."""
    stem, cycle = rule
    choices = stem
    while cycle and len(choices) < many:
        choices = choices + cycle
    return choices[:many]


def slow_met(kind, window, pieces, backs, most):
    """A dict of the states that are met, each with some choices that lead to it and its replies; None if too many."""
    choices_to = {(): ()}
    replies = {}
    waiting = [()]
    while waiting:
        state = waiting.pop(0)
        replies[state] = []
        for choice in slow_full_choices(kind, window, backs, len(choices_to[state]) + 1):
            choices = choices_to[state] + (choice,)
            if most_pieces(kind, window, choices) <= pieces:
                behind = slow_state(kind, window, choices)
                replies[state].append((choice, behind))
                if behind not in choices_to:
                    choices_to[behind] = choices
                    waiting.append(behind)
        if len(choices_to) > most:
            return None
    return replies


def slow_live(replies):
    """The states from which one can go on for ever: what is left when dead ends are struck out again and again."""
    live = set(replies)
    while True:
        left = {state for state in live if any(behind in live for _, behind in replies[state])}
        if left == live:
            return live
        live = left
