"""Texts of patterns: writing and reading them."""

from scarp.errors import BadForm
from scarp.patterns import MAX_NODES, count_nodes
from scarp.words import SMALL_LETTERS

MAX_PATTERN_TEXT = 1000
MAX_GROUPS = 40


def pattern_text(pattern):
    """The plain text of a pattern."""
    head = pattern[0]
    if head == "letter":
        return pattern[1]
    if head in ("not", "again"):
        return head + " " + _grouped(pattern[1], ("row", "and", "or"))
    if head == "row":
        return _grouped(pattern[1], ("and", "or")) + " " + _grouped(pattern[2], ("row", "and", "or"))
    if head == "and":
        return _grouped(pattern[1], ("or",)) + " and " + _grouped(pattern[2], ("and", "or"))
    if head == "or":
        return pattern_text(pattern[1]) + " or " + _grouped(pattern[2], ("or",))
    return head


def _grouped(pattern, heads):
    """The plain text of a pattern, in parentheses if its head is one of these."""
    text = pattern_text(pattern)
    if pattern[0] in heads:
        return "(" + text + ")"
    return text


def read_pattern(letters, text):
    """The pattern of a text."""
    if len(text) > MAX_PATTERN_TEXT:
        raise BadForm(1)
    parts = _parts_of(text)
    pattern, at = _read_or(letters, parts, 0, 0)
    if at != len(parts) or count_nodes(pattern) > MAX_NODES:
        raise BadForm(1)
    return pattern


def _parts_of(text):
    """The list of the words and parentheses of a text."""
    parts = []
    word = ""
    # The space behind the text ends its last word.
    for sign in text + " ":
        if sign in SMALL_LETTERS:
            word += sign
            continue
        if word != "":
            parts.append(word)
            word = ""
        if sign in ("(", ")"):
            parts.append(sign)
        elif sign != " ":
            raise BadForm(1)
    return parts


def _next_is(parts, at, words):
    """True if there is a part at this index, and it is one of the words."""
    return at < len(parts) and parts[at] in words


def _read_or(letters, parts, at, depth):
    """A `pattern` of the grammar from an index on, and the index behind it."""
    pattern, at = _read_and(letters, parts, at, depth)
    while _next_is(parts, at, ("or",)):
        second, at = _read_and(letters, parts, at + 1, depth)
        pattern = ("or", pattern, second)
    return pattern, at


def _read_and(letters, parts, at, depth):
    """A `both` of the grammar from an index on, and the index behind it."""
    pattern, at = _read_row(letters, parts, at, depth)
    while _next_is(parts, at, ("and",)):
        second, at = _read_row(letters, parts, at + 1, depth)
        pattern = ("and", pattern, second)
    return pattern, at


def _read_row(letters, parts, at, depth):
    """A `line` of the grammar from an index on, and the index behind it."""
    pattern, at = _read_single(letters, parts, at, depth)
    while at < len(parts) and parts[at] not in ("or", "and", ")"):
        second, at = _read_single(letters, parts, at, depth)
        pattern = ("row", pattern, second)
    return pattern, at


def _read_single(letters, parts, at, depth):
    """A `single` of the grammar from an index on, and the index behind it."""
    # A loop over what stands ahead, so that a long row of `not` takes no deep recursion.
    ahead = []
    while _next_is(parts, at, ("not", "again")):
        ahead.append(parts[at])
        at += 1
    pattern, at = _read_core(letters, parts, at, depth)
    for word in reversed(ahead):
        pattern = (word, pattern)
    return pattern, at


def _read_core(letters, parts, at, depth):
    """A `single` that does not begin with `not` or `again`, and the index behind it."""
    if _next_is(parts, at, letters):
        return ("letter", parts[at]), at + 1
    if _next_is(parts, at, ("any", "empty", "none")):
        return (parts[at],), at + 1
    if depth == MAX_GROUPS or not _next_is(parts, at, ("(",)):
        raise BadForm(1)
    pattern, at = _read_or(letters, parts, at + 1, depth + 1)
    if not _next_is(parts, at, (")",)):
        raise BadForm(1)
    return pattern, at + 1
