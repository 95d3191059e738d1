"""Images of stores, read line by line."""

from scarp.errors import BadForm
from scarp.joint import MAX_READERS
from scarp.patterntexts import pattern_text, read_pattern
from scarp.store import MAX_IMAGE, MAX_NUMBER, store_of
from scarp.words import MAX_LETTERS, MAX_LOG, is_word, number_of


class Image:
    """What the lines of an image have told so far."""

    def __init__(self):
        self.next_numbers = None
        self.words = ()
        self.reads = []
        self.barred = []
        self.row = None

    def take(self, line):
        """Take the next line; return False if it is bad."""
        parts = line.split(" ")
        if (self.next_numbers is None) != (parts[0] == "store") or self.row is not None:
            return False
        if parts[0] == "store":
            return self._take_numbers(parts[1:])
        if parts[0] == "letter":
            return self._take_letter(parts[1:])
        if self.words == ():
            return False
        if parts[0] == "read":
            return self.barred == [] and self._take_pattern(self.reads, self.next_numbers[0], parts[1:])
        if parts[0] == "bar":
            return self._take_pattern(self.barred, self.next_numbers[1], parts[1:])
        return parts[0] == "log" and self._take_log(parts[1:])

    def _take_numbers(self, parts):
        """Take the numbers that the next patterns will get."""
        self.next_numbers = tuple([number_of(part) for part in parts])
        return len(parts) == 2 and all(1 <= number <= MAX_NUMBER + 1 for number in self.next_numbers)

    def _take_letter(self, parts):
        """Take the next letter."""
        if len(parts) != 1 or not is_word(parts[0]) or parts[0] in self.words:
            return False
        self.words = self.words + (parts[0],)
        return len(self.words) <= MAX_LETTERS and self.reads == [] and self.barred == []

    def _take_pattern(self, pairs, limit, parts):
        """Take the next pattern of a kind, whose number has to be less than the limit."""
        number = number_of(parts[0]) if parts else -1
        least = pairs[-1][0] + 1 if pairs else 1
        text = " ".join(parts[1:])
        if not least <= number < limit or len(self.reads) + len(self.barred) == MAX_READERS:
            return False
        try:
            pattern = read_pattern(self.words, text)
        except BadForm:
            return False
        pairs.append((number, pattern))
        return pattern_text(pattern) == text

    def _take_log(self, parts):
        """Take the letters of the log."""
        self.row = tuple(parts)
        return len(parts) <= MAX_LOG and all(part in self.words for part in self.row)


def load_store(text):
    """The store with this image."""
    if len(text) > MAX_IMAGE:
        raise BadForm(0)
    image = Image()
    lines = text.split("\n")
    for at in range(len(lines) - 1):
        if not image.take(lines[at]):
            raise BadForm(at + 1)
    # What stands behind the last newline is nothing, or a line without one; and a line for the log may be missing.
    if lines[-1] != "" or image.row is None:
        raise BadForm(len(lines))
    return store_of(image.words, image.reads, image.barred, image.row, image.next_numbers)
