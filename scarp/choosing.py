"""Choosing some of several things."""


def chosen(things, many):
    """The list of all tuples of so many of some things, each in their order, those with earlier things first."""
    found = [((), 0)]
    for _ in range(many):
        found = [(row + (things[at],), at + 1) for row, begun in found for at in range(begun, len(things))]
    return [row for row, _ in found]


def count_chosen(size, most):
    """The number of the tuples of at most so many of `size` things."""
    total = 0
    ways = 1
    for many in range(min(size, most) + 1):
        total += ways
        ways = ways * (size - many) // (many + 1)
    return total
