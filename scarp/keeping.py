"""Windows that are kept told: who wins, the log or the keeper, with papers that show it, and their judges."""

from scarp.errors import BadPaper, Missing, NotAllowed
from scarp.lost import lost_positions, met_positions
from scarp.stocks import row_of

MAX_HABIT = 4
MAX_WIDE = 5
MAX_MAKES = 3
MAX_ASKS = 3

FIRST = (0, 0, ())

# Windows of up to five letters have 1100 sets of slices, and a habit has up to four states.
ALL_POSITIONS = 4400


def check_habit(habit):
    """Raise NotAllowed if a tuple of pairs is not a habit."""
    if not 1 <= len(habit) <= MAX_HABIT:
        raise NotAllowed("a habit has 1 to 4 states")
    for pair in habit:
        for state in pair:
            if not -1 <= state < len(habit):
                raise NotAllowed("a habit leads to a state that is not there")


def _check(habit, wide, makes, asks):
    """Raise NotAllowed if this is not a habit, or one of the integers is out of range."""
    check_habit(habit)
    if not 1 <= wide <= MAX_WIDE:
        raise NotAllowed("the greatest number of letters is not from 1 to 5")
    if not 0 <= makes <= MAX_MAKES:
        raise NotAllowed("the number of products is not from 0 to 3")
    if not 0 <= asks <= MAX_ASKS:
        raise NotAllowed("the number of products of an answer is not from 0 to 3")


def behind_move(habit, wide, position, move):
    """The position behind a move of the log, ahead of what the keeper makes; None if the move is not possible."""
    state, many, spans = position
    if move == "in":
        return (habit[state][0], many + 1, spans) if habit[state][0] != -1 and many < wide else None
    if habit[state][1] == -1 or many == 0:
        return None
    return (habit[state][1], many - 1, tuple([(first - 1, last - 1) for first, last in spans if first > 0]))


def _possible_moves(habit, wide, position):
    """The list of the moves that the log can make at a position."""
    return [move for move in ("in", "out") if behind_move(habit, wide, position, move) is not None]


def told_row(position):
    """The row of the fewest pieces that are all of the window."""
    _, many, spans = position
    return row_of(many, spans, (0, many)) if many > 0 else (0,)


def _is_told(position, asks):
    """True if the window is told."""
    return len(told_row(position)) - 1 <= asks + 1


def middle_of(many, spans, span):
    """A place at which a slice is cut into two pieces that are there, -1 if it cannot be made."""
    first, last = span
    if 0 <= first and last <= many:
        for place in range(first + 1, last):
            if _is_piece(spans, first, place) and _is_piece(spans, place, last):
                return place
    return -1


def _is_piece(spans, first, last):
    """True if these places are those of a letter, or of a stored slice."""
    return last == first + 1 or (first, last) in spans


def _makings(many, spans, makes):
    """A dict of what can be stored when so many products are made, each with what is made for it, one after another.

    More stored slices never harm the keeper, so that nothing is made twice, and as many as possible are made.
    """
    wanted = [(first, last) for first in range(many) for last in range(first + 2, many + 1)]
    found = {spans: ()}
    for _ in range(min(makes, len(wanted) - len(spans))):
        more = {}
        for stored in found:
            for span in wanted:
                if span not in stored and middle_of(many, stored, span) != -1:
                    more.setdefault(tuple(sorted(stored + (span,))), found[stored] + (span,))
        found = more
    return found


class Keeping:
    """A game of the log against the keeper: the positions that are met, each with a row of replies for each move."""

    def __init__(self, habit, wide, makes, asks):
        self._habit = habit
        self._wide = wide
        self._makes = makes
        self._asks = asks
        # What can be made hangs on the letters and the slices alone, and comes with many states.
        self._known = {}

    def log_moves(self, position):
        """The list of the moves that the log can make at a position."""
        return _possible_moves(self._habit, self._wide, position)

    def replies(self, position, move):
        """The list of the pairs of what the keeper makes behind a move, and the position behind it."""
        state, many, spans = behind_move(self._habit, self._wide, position, move)
        if (many, spans) not in self._known:
            self._known[(many, spans)] = _makings(many, spans, self._makes)
        makings = self._known[(many, spans)]
        return [(makings[stored], (state, many, stored)) for stored in makings]

    def fair_replies(self, position, move):
        """Those of the replies behind which the window is told."""
        return [reply for reply in self.replies(position, move) if _is_told(reply[1], self._asks)]

    def rows_at(self, position):
        """For each of the moves of the log the list of the fair replies to it."""
        return [self.fair_replies(position, move) for move in self.log_moves(position)]


def solve_keeping(habit, wide, makes, asks):
    """A right paper of the keeper, behind the word for it, or one of the log."""
    _check(habit, wide, makes, asks)
    game = Keeping(habit, wide, makes, asks)
    met = met_positions([FIRST], lambda position: game.rows_at(position), ALL_POSITIONS)
    lost = lost_positions(met)
    if FIRST in lost:
        rows = [(position, rank, game.log_moves(position)[lost[position]]) for rank, position in enumerate(lost)]
        return ("lost", tuple(rows))
    return ("kept", _kept_paper(game, met, lost))


def _kept_paper(game, met, lost):
    """A paper of the keeper from the first position on, of positions that are not lost."""
    waiting = [FIRST]
    known = {FIRST: True}
    paper = []
    while waiting:
        position = waiting.pop()
        answers = {"in": (), "out": ()}
        for move, row in zip(game.log_moves(position), met[position]):
            made, behind = [reply for reply in row if reply[1] not in lost][0]
            answers[move] = made
            if behind not in known:
                known[behind] = True
                waiting.append(behind)
        paper.append((position, (answers["in"], answers["out"])))
    return tuple(paper)


def _check_position(habit, position):
    """Raise BadPaper if a triple is no position."""
    state, many, spans = position
    if not 0 <= state < len(habit) or not 0 <= many <= MAX_WIDE:
        raise BadPaper("a position has a state that is not there, or a wrong number of letters")
    for at, (first, last) in enumerate(spans):
        if not (0 <= first and first + 2 <= last <= many) or (at > 0 and spans[at - 1] >= spans[at]):
            raise BadPaper("a position has what is no slice, or slices that do not ascend")


def _are_within(spans, others):
    """True if some slices are all among others."""
    return all(span in others for span in spans)


class KeptPaper:
    """A paper of the keeper, asked for what it makes, and for the position to which it goes then."""

    def __init__(self, paper):
        self._answers = {position: answers for position, answers in paper}
        self._spans = {}
        for state, many, spans in self._answers:
            self._spans.setdefault((state, many), []).append(spans)

    def made(self, position, move):
        """What the keeper makes behind a move, one after another."""
        return self._answers[position][0 if move == "in" else 1]

    def goal(self, position):
        """The first position with this state and number of letters, and only slices that are stored; None without."""
        state, many, stored = position
        for spans in self._spans.get((state, many), []):
            if _are_within(spans, stored):
                return (state, many, spans)
        return None


def _check_kept_rows(habit, asks, paper):
    """Raise BadPaper if a paper of the keeper has not different told positions, each with a pair of answers."""
    positions = {position: True for position, _ in paper}
    if FIRST not in positions or len(positions) != len(paper):
        raise BadPaper("the first position is not there, or one stands twice")
    for position, answers in paper:
        _check_position(habit, position)
        if not _is_told(position, asks):
            raise BadPaper("the window is not told")
        if len(answers) != 2:
            raise BadPaper("there is not one answer for each of the two moves")


def judge_kept(habit, wide, makes, asks, paper):
    """Raise BadPaper if this is not a right paper of the keeper."""
    _check(habit, wide, makes, asks)
    _check_kept_rows(habit, asks, paper)
    kept = KeptPaper(paper)
    for position, _ in paper:
        for move in ("in", "out"):
            made = kept.made(position, move)
            behind = behind_move(habit, wide, position, move)
            if behind is None and made != ():
                raise BadPaper("something is made behind a move that is not possible")
            if behind is not None and (len(made) > makes or kept.goal(_with_made(behind, made)) is None):
                raise BadPaper("too much is made, or no position of the paper comes then")


def _with_made(position, made):
    """The position when some slices have been made, one after another."""
    state, many, spans = position
    for span in made:
        if middle_of(many, spans, span) == -1:
            raise BadPaper("a slice cannot be made")
        spans = spans + (span,)
    return (state, many, spans)


def judge_lost(habit, wide, makes, asks, paper):
    """Raise BadPaper if this is not a right paper of the log."""
    _check(habit, wide, makes, asks)
    for position, _, move in paper:
        _check_position(habit, position)
        if move not in ("in", "out") or behind_move(habit, wide, position, move) is None:
            raise BadPaper("a move is not possible")
    lost = LostPaper(paper)
    if FIRST not in [position for position, _, _ in paper]:
        raise BadPaper("the first position is not there")
    game = Keeping(habit, wide, makes, asks)
    for position, rank, move in paper:
        for _, behind in game.fair_replies(position, move):
            if not lost.is_below(behind, rank):
                raise BadPaper("the keeper can go where no lesser rank is")


class LostPaper:
    """A paper of the log, asked whether the keeper has lost at a position."""

    def __init__(self, paper):
        # The least rank of each position of the paper; and for those asked the least one of what has all their slices.
        self._ranks = {}
        self._known = {}
        for position, rank, _ in paper:
            self._ranks[position] = min(rank, self._ranks.get(position, rank))

    def is_below(self, position, rank):
        """True if a position of the paper with at least the same slices has a lesser rank."""
        if position in self._ranks and self._ranks[position] < rank:
            return True
        if position not in self._known:
            more = [self._ranks[other] for other in self._ranks if _has_all(other, position)]
            self._known[position] = sorted(more)[:1]
        return self._known[position] != [] and self._known[position][0] < rank


def _has_all(position, other):
    """True if a position has the state and the number of letters of another one, and at least its slices."""
    return position[:2] == other[:2] and _are_within(other[2], position[2])


def least_makes(habit, wide, asks):
    """The least number of products a turn with which the keeper wins."""
    _check(habit, wide, 0, asks)
    for makes in range(MAX_MAKES + 1):
        if solve_keeping(habit, wide, makes, asks)[0] == "kept":
            return makes
    raise Missing("no number of products is enough")
