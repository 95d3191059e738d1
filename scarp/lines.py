"""The lines of scripts, read into their words, numbers and texts."""

from scarp.words import SMALL_LETTERS, number_of

# What follows the first word of a line: numbers and kinds, so many; or any number of words; or a text.
PARTS = {
    "forget": ("N",), "allow": ("N",), "cut": ("N",), "undo": (), "log": (), "lets": ("N", "N", "N"), "levels": (),
    "pieces": ("N", "N"), "steady": (), "elements": (), "bound": (), "least": ("KIND",), "enough": ("KIND", "N"),
    "play": ("KIND", "N", "N"),
}
WITH_WORDS = ("begin", "add")
WITH_TEXT = ("read", "bar")


def read_command(line):
    """The words of a line, with numbers as integers and a text as one; None for a line of no known form."""
    if line == "":
        return ()
    head, space, text = line.partition(" ")
    if head in WITH_TEXT:
        return (head, text) if space == " " else None
    words = line.split(" ")[1:]
    if head in WITH_WORDS:
        return (head,) + tuple(words) if all(_is_row_of_letters(word) for word in words) else None
    if head not in PARTS or len(PARTS[head]) != len(words):
        return None
    parts = [_part_of(kind, word) for kind, word in zip(PARTS[head], words)]
    return None if None in parts else (head,) + tuple(parts)


def _is_row_of_letters(word):
    """True if a word is one or more small letters of the alphabet."""
    return word != "" and all(sign in SMALL_LETTERS for sign in word)


def _part_of(kind, word):
    """The number or the kind of splits that a word tells, None if it tells none."""
    if kind == "KIND":
        return word if word in ("good", "forward") else None
    number = number_of(word)
    return None if number == -1 else number
