"""Plays in which the levels are written at once or a little later: who wins, with a paper that shows it."""

from scarp.errors import BadPaper, Missing, NotAllowed
from scarp.lost import lost_positions, met_positions
from scarp.splits import MAX_HEIGHT
from scarp.stands import Steps, check_stands, start_at

MAX_DELAY = 2
MAX_POSITIONS = 975


def windows_of(letters, delay):
    """The list of all windows of so many letters, in ascending order."""
    windows = [()]
    for _ in range(delay):
        windows = [window + (letter,) for window in windows for letter in letters]
    return windows


def replies(steps, position, letter):
    """The list of the pairs of a level that can be given when a letter comes, and the position that it leads to."""
    stand, window = position
    row = window + (letter,)
    return [(level, (behind, row[1:])) for level, behind in steps.from_stand(stand, row[0])]


def _met(table, kind, height, delay):
    """For each position that can be met, the list of the replies to each letter."""
    steps = Steps(table, kind)
    begun = []
    for window in windows_of(table[0], delay):
        begun.extend([(start_at(height, level), window) for level in range(1, height + 1)])

    def rows_at(position):
        return [replies(steps, position, letter) for letter in table[0]]

    return met_positions(begun, rows_at, MAX_POSITIONS)


def play_of(table, kind, height, delay):
    """A right paper of a labeller, behind the word for it, or one of an attack."""
    letters = table[0]
    met = _met(table, kind, height, delay)
    lost = lost_positions(met)
    begun = []
    for window in windows_of(letters, delay):
        fair = [level for level in range(1, height + 1) if (start_at(height, level), window) not in lost]
        if len(fair) == 0:
            return ("attack", window, tuple([position + (letters[lost[position]],) for position in lost]))
        begun.append((window, fair[0]))
    choices = [(position, _fair_levels(met[position], lost)) for position in met if position not in lost]
    return ("labeller", tuple(begun), tuple(choices))


def _fair_levels(rows, lost):
    """For each letter the least level that leads to a position that is not lost."""
    return tuple([min([level for level, behind in row if behind not in lost]) for row in rows])


def _check_positions(table, height, delay, positions):
    """Raise BadPaper if some pairs of a stand and a window are not different positions."""
    if len({position: True for position in positions}) != len(positions):
        raise BadPaper("a position stands twice")
    try:
        check_stands(table, height, [stand for stand, _ in positions])
    except NotAllowed:
        raise BadPaper("a stand is not one of this height")
    for _, window in positions:
        _check_window(table, delay, window)


def _check_window(table, delay, window):
    """Raise BadPaper if a tuple of texts is not a window."""
    if len(window) != delay or any(letter not in table[0] for letter in window):
        raise BadPaper("a window is not one of so many letters")


def judge_labeller(table, kind, height, delay, starts, choices):
    """Raise BadPaper if this is not a right paper of a labeller."""
    if [window for window, _ in starts] != windows_of(table[0], delay):
        raise BadPaper("there is not one start for each window, in their order")
    _check_positions(table, height, delay, [position for position, _ in choices])
    paper = {position: levels for position, levels in choices}
    for window, level in starts:
        if not 1 <= level <= height or (start_at(height, level), window) not in paper:
            raise BadPaper("a start is no position of the paper")
    steps = Steps(table, kind)
    for position in paper:
        if len(paper[position]) != len(table[0]):
            raise BadPaper("there is not one level for each letter")
        for at, letter in enumerate(table[0]):
            if not _leads_into(replies(steps, position, letter), paper[position][at], paper):
                raise BadPaper("a step is not possible, or leads to no position of the paper")


def _leads_into(row, wanted, paper):
    """True if a level is one of those of the replies, and leads to a position of the paper."""
    return any(level == wanted and behind in paper for level, behind in row)


def judge_attack(table, kind, height, delay, window, rows):
    """Raise BadPaper if this is not a right paper of an attack."""
    _check_window(table, delay, window)
    _check_positions(table, height, delay, [(stand, seen) for stand, seen, _ in rows])
    steps = Steps(table, kind)
    earlier = {}
    for stand, seen, letter in rows:
        if letter not in table[0]:
            raise BadPaper("the paper has a letter that the table has not")
        for _, behind in replies(steps, (stand, seen), letter):
            if behind not in earlier:
                raise BadPaper("a step leads to no earlier row")
        earlier[(stand, seen)] = True
    for level in range(1, height + 1):
        if (start_at(height, level), window) not in earlier:
            raise BadPaper("a start has no row")


def least_at_once(table, kind, delay):
    """The least height for which there is a labeller with this delay."""
    for height in range(1, MAX_HEIGHT + 1):
        if play_of(table, kind, height, delay)[0] == "labeller":
            return height
    raise Missing("there is a labeller for no height")


def least_delay(table, kind, height):
    """The least delay for which there is a labeller with this height."""
    for delay in range(MAX_DELAY + 1):
        if play_of(table, kind, height, delay)[0] == "labeller":
            return delay
    raise Missing("there is a labeller for no delay")
