"""Papers that a height is enough for all logs, or not for one of them, and their judges."""

from scarp.errors import BadPaper, NotAllowed
from scarp.shortfalls import levels_back
from scarp.stands import Steps, check_stands, freer_stands, starts


def judge_enough(table, kind, height, guesses, moves):
    """Raise BadPaper if a closed table does not show that the height is enough for all logs."""
    _check_closed(table, height, guesses, moves)
    for stand in guesses[0]:
        if stand not in starts(height):
            raise BadPaper("a stand of the first guess is no start")
    if () in guesses:
        raise BadPaper("a guess is empty")
    steps = Steps(table, kind)
    for at, stands in enumerate(guesses):
        for number, letter in enumerate(table[0]):
            reached = _reached(steps, stands, letter)
            for stand in guesses[moves[at][number]]:
                if stand not in reached:
                    raise BadPaper("no step leads to a stand")


def _check_closed(table, height, guesses, moves):
    """Raise NotAllowed if this is not a closed table of the height."""
    if len(guesses) == 0 or len(moves) != len(guesses):
        raise NotAllowed("there is no guess, or not one row of moves for each")
    for stands in guesses:
        check_stands(table, height, stands)
    for row in moves:
        if len(row) != len(table[0]):
            raise NotAllowed("there is not one move for each letter")
        for number in row:
            if not 0 <= number < len(guesses):
                raise NotAllowed("a move leads to no guess")


def _reached(steps, stands, letter):
    """A dict whose keys are the stands to which a step by a letter leads from some stands."""
    found = {}
    for stand in stands:
        for _, behind in steps.from_stand(stand, letter):
            found[behind] = True
    return found


def judge_more(table, kind, height, log, covers):
    """Raise BadPaper if covers do not show that the log has no split of the kind with at most this height."""
    if len(covers) != len(log) + 1:
        raise NotAllowed("there is not one cover for each place")
    for stands in covers:
        check_stands(table, height, stands)
    _check_covered(starts(height), covers[0])
    steps = Steps(table, kind)
    # Covers of a long log may come again and again: what was looked at once need not be looked at again.
    looked = {}
    for place, letter in enumerate(log):
        key = (covers[place], letter, covers[place + 1])
        if key not in looked:
            _check_covered(_reached(steps, covers[place], letter), covers[place + 1])
            looked[key] = True
    if covers[-1] != ():
        raise BadPaper("the last cover is not empty")


def _check_covered(stands, cover):
    """Raise BadPaper if no stand of the cover is at least as free as one of some stands."""
    present = {stand: True for stand in cover}
    for stand in stands:
        if not any(other in present for other in freer_stands(stand)):
            raise BadPaper("a stand is not covered")


def read_split(table, kind, log, guesses, moves):
    """A split of the log that is read from a closed table that shows that its height is enough."""
    numbers = [0]
    for letter in log:
        numbers.append(moves[numbers[-1]][table[0].index(letter)])
    return levels_back(Steps(table, kind), [guesses[number] for number in numbers], log)
