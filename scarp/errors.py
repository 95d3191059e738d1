"""The errors that the program raises."""


class ScarpError(ValueError):
    """The base class of all errors of the program."""


class NotAllowed(ScarpError):
    """An argument is not what it has to be."""


class TooLarge(ScarpError):
    """An answer would go beyond a bound of the document."""


class Missing(ScarpError):
    """What was asked for is not there."""


class BadPaper(ScarpError):
    """A paper does not show what it has to show."""


class BadForm(ScarpError):
    """A text does not follow its grammar, in the line with this number."""

    def __init__(self, line):
        ScarpError.__init__(self, f"line {line} is not well formed")
        self.line = line


class Broken(ScarpError):
    """A slice of a log is barred by the pattern with this number."""

    def __init__(self, number, start, end):
        ScarpError.__init__(self, f"pattern {number} bars the slice from {start} to {end}")
        self.number = number
        self.start = start
        self.end = end
