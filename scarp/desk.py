"""The desk: scripts of lines that are answered one after another, about one store."""

from scarp.bounds import bound_of
from scarp.errors import BadForm, Broken, Missing, NotAllowed, TooLarge
from scarp.games import MAX_DELAY, play_of
from scarp.guesses import least_for_all, sets_of
from scarp.lines import read_command
from scarp.patterntexts import read_pattern
from scarp.splits import MAX_HEIGHT
from scarp.store import Store
from scarp.words import log_text

MAX_SCRIPT = 4000
MAX_LINES = 60


def _text_of(log):
    """The text of a log, a dash if it has no letters."""
    return "-" if log == () else log_text(log)


def _check_height(height):
    """Raise NotAllowed if a number is no height."""
    if not 1 <= height <= MAX_HEIGHT:
        raise NotAllowed("there is no such height")


# One function for each command that needs a store: it is given the store and what follows the command's word.

def _read(store, parts):
    return str(store.read(read_pattern(store.letters(), parts[0])))


def _bar(store, parts):
    return str(store.bar(read_pattern(store.letters(), parts[0])))


def _forget(store, parts):
    store.forget(parts[0])
    return "ok"


def _allow(store, parts):
    store.allow(parts[0])
    return "ok"


def _cut(store, parts):
    store.cut(parts[0])
    return "ok"


def _undo(store, _):
    store.undo()
    return "ok"


def _add(store, parts):
    return str(store.append(parts))


def _log(store, _):
    return _text_of(store.log())


def _lets(store, parts):
    return "yes" if store.lets(parts[0], parts[1], parts[2]) else "no"


def _levels(store, _):
    return " ".join([str(level) for level in store.levels()])


def _pieces(store, parts):
    return str(len(store.pieces(parts[0], parts[1])))


def _steady(store, _):
    return str(store.steady())


def _count_elements(store, _):
    return str(len(store.table()[2]))


def _bound(store, _):
    return str(bound_of(store.table())[0])


def _least(store, parts):
    height, log = least_for_all(store.table(), parts[0])
    return str(height) if log is None else f"{height} : {_text_of(log)}"


def _enough(store, parts):
    _check_height(parts[1])
    answer = sets_of(store.table(), parts[0], parts[1])
    return "enough" if answer[0] == "enough" else "more : " + _text_of(answer[1])


def _play(store, parts):
    _check_height(parts[1])
    if parts[2] > MAX_DELAY:
        raise NotAllowed("there is no such delay")
    return play_of(store.table(), parts[0], parts[1], parts[2])[0]


ACTIONS = {
    "read": _read, "bar": _bar, "forget": _forget, "allow": _allow, "cut": _cut, "undo": _undo, "add": _add,
    "log": _log, "lets": _lets, "levels": _levels, "pieces": _pieces, "steady": _steady,
    "elements": _count_elements, "bound": _bound, "least": _least, "enough": _enough, "play": _play,
}


class Desk:
    """A desk, with a store as soon as one has been begun."""

    def __init__(self):
        self._store = None

    def answer(self, line):
        """The answer to the next line."""
        command = read_command(line)
        if command is None:
            return "bad"
        if command == ():
            return ""
        try:
            return self._done(command[0], command[1:])
        except NotAllowed:
            return "refused"
        except BadForm:
            return "form"
        except Missing:
            return "missing"
        except TooLarge:
            return "large"
        except Broken as why:
            return f"broken {why.number} {why.start} {why.end}"

    def _done(self, word, parts):
        """Do what a line says, and return its answer."""
        if word == "begin":
            self._store = Store(parts)
            return "ok"
        if self._store is None:
            return "none"
        action = ACTIONS[word]
        return action(self._store, parts)


def run_script(script):
    """The list of the answers to the lines of a script, on a new desk."""
    lines = script.split("\n")
    if len(script) > MAX_SCRIPT or len(lines) > MAX_LINES:
        raise NotAllowed("the script is too long")
    desk = Desk()
    return [desk.answer(line) for line in lines]
