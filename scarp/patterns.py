"""Patterns: which logs a reader lets by, written as tuples."""

from scarp.errors import NotAllowed

MAX_NODES = 30

ALONE = ("any", "empty", "none")
WITH_ONE = ("again", "not")
WITH_TWO = ("row", "and", "or")


def check_pattern(letters, pattern):
    """Raise NotAllowed if a value is not a pattern over the letters."""
    # A list of what waits, not recursion: a value may be nested deeper than any pattern.
    waiting = [pattern]
    nodes = 0
    while waiting:
        node = waiting.pop()
        nodes += 1
        if nodes > MAX_NODES:
            raise NotAllowed("the pattern has too many nodes")
        if not _is_node(letters, node):
            raise NotAllowed("the value is not a pattern")
        waiting.extend(inner_patterns(node))


def _is_node(letters, value):
    """True if a value is a node of a pattern, whatever its inner patterns are."""
    if not isinstance(value, tuple) or len(value) == 0:
        return False
    head = value[0]
    if head == "letter":
        return len(value) == 2 and value[1] in letters
    if head in ALONE:
        return len(value) == 1
    if head in WITH_ONE:
        return len(value) == 2
    return head in WITH_TWO and len(value) == 3


def inner_patterns(node):
    """The list of the patterns that stand directly in a node."""
    if node[0] == "letter":
        return []
    return list(node[1:])


def count_nodes(pattern):
    """The number of the nodes of a pattern."""
    waiting = [pattern]
    nodes = 0
    while waiting:
        node = waiting.pop()
        nodes += 1
        waiting.extend(inner_patterns(node))
    return nodes
