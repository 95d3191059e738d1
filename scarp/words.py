"""Words, the letters of logs, and logs."""

from scarp.errors import NotAllowed

MAX_WORD = 8
MAX_LETTERS = 4
MAX_LOG = 400
RESERVED = ("any", "empty", "none", "and", "or", "not", "again")

SMALL_LETTERS = "abcdefghijklmnopqrstuvwxyz"
DIGITS = "0123456789"
MAX_DIGITS = 7


def is_word(text):
    """True if the text is a word."""
    if not 1 <= len(text) <= MAX_WORD or text in RESERVED:
        return False
    return all(sign in SMALL_LETTERS for sign in text)


def check_letters(letters):
    """Raise NotAllowed if a tuple of texts is not the letters of logs."""
    if not 1 <= len(letters) <= MAX_LETTERS:
        raise NotAllowed("there are 1 to 4 letters")
    for at, word in enumerate(letters):
        if not is_word(word):
            raise NotAllowed("a letter is not a word")
        if word in letters[:at]:
            raise NotAllowed("a letter stands twice")


def check_log(letters, log):
    """Raise NotAllowed if a tuple of texts is not a log over the letters."""
    if len(log) > MAX_LOG:
        raise NotAllowed("the log is too long")
    for word in log:
        if word not in letters:
            raise NotAllowed("the log has a word that is no letter")


def log_text(log):
    """The text of a log."""
    return " ".join(log)


def read_log(letters, text):
    """The log of a text."""
    # Only the space separates: a newline stays in its word, which then is no letter.
    log = tuple([word for word in text.split(" ") if word != ""])
    check_log(letters, log)
    return log


def number_of(text):
    """The number that a text of 1 to 7 digits without a zero in front tells, -1 if it is no such text."""
    if not 1 <= len(text) <= MAX_DIGITS or any(sign not in DIGITS for sign in text):
        return -1
    if text[0] == "0" and text != "0":
        return -1
    return int(text)
