"""What growing logs can be kept with: rules for ever, the longest plans, and papers that there is nothing better."""

from scarp.choosing import chosen
from scarp.errors import BadPaper, Missing, TooLarge
from scarp.growing import MAX_WINDOW, are_choices, check_kind, check_limits, check_window
from scarp.growing import full_choices, grown, kept_pieces
from scarp.lost import lost_positions, met_positions

MAX_MET = 2000


def _check(kind, window, pieces, backs):
    """Raise NotAllowed if one of these is out of range."""
    check_kind(kind)
    check_window(window)
    check_limits(pieces, backs)


def _replies(kind, window, pieces, backs, state):
    """The list of the pairs of a full choice, with which each slice has so few pieces, and the state behind it."""
    found = []
    # Behind a state of less than all places that count, the next place is known; behind others it does not matter.
    for choice in full_choices(kind, window, backs, len(state) + 1):
        behind, most = grown(kind, window, state, choice)
        if most <= pieces:
            found.append((choice, behind))
    return found


def _met(kind, window, pieces, backs):
    """A dict of the states that are met, each with the one row of its replies."""
    return met_positions([()], lambda state: [_replies(kind, window, pieces, backs, state)], MAX_MET)


def _ranks(met, dead):
    """For each of the states from which one cannot go on for ever the greatest number of letters that can follow it."""
    ranks = {}
    # What follows a state stands ahead of it.
    for state in dead:
        ranks[state] = max([0] + [ranks[behind] + 1 for _, behind in met[state][0]])
    return ranks


def growth(kind, window, pieces, backs):
    """The first rule that keeps so many pieces, behind the word for it, or the most letters that a plan does for."""
    _check(kind, window, pieces, backs)
    met = _met(kind, window, pieces, backs)
    dead = lost_positions(met)
    if () in dead:
        return ("none", _ranks(met, dead)[()])
    choices = []
    states = [()]
    while states[-1] not in states[:-1]:
        choice, behind = [reply for reply in met[states[-1]][0] if reply[1] not in dead][0]
        choices.append(choice)
        states.append(behind)
    begun = states.index(states[-1])
    return ("rule", tuple(choices[:begun]), tuple(choices[begun:]))


def ranks_paper(kind, window, pieces, backs):
    """The first paper that no rule keeps so many pieces."""
    _check(kind, window, pieces, backs)
    met = _met(kind, window, pieces, backs)
    dead = lost_positions(met)
    if () not in dead:
        raise Missing("some rule keeps so many pieces")
    ranks = _ranks(met, dead)
    return tuple(sorted([(state, ranks[state]) for state in ranks]))


def judge_rule(kind, window, pieces, backs, rule):
    """Raise BadPaper if this is not a rule with a cycle that keeps so many pieces."""
    _check(kind, window, pieces, backs)
    choices = rule[0] + rule[1]
    if rule[1] == () or not are_choices(window, choices) or any(len(choice) > backs for choice in choices):
        raise BadPaper("this is no rule with a cycle, or a choice has too many offsets")
    if kept_pieces(kind, window, rule) > pieces:
        raise BadPaper("a slice has too many pieces")


def _is_state(kind, window, pieces, state):
    """True if a tuple is built as a state is."""
    if len(state) >= window:
        return False
    for at, part in enumerate(state):
        if kind == "one":
            if isinstance(part, tuple) or not 0 <= part < len(state) - at:
                return False
        elif not isinstance(part, tuple) or len(part) != at + 1 or any(not 1 <= many <= pieces for many in part):
            return False
    return True


class Ranks:
    """A paper of states and ranks, asked for the least rank of what is at least as good as a state."""

    def __init__(self, kind, paper):
        self._kind = kind
        self._paper = paper
        # The least rank of each state of the paper, and of those that were asked for all states at least as good.
        self._own = {}
        self._known = {}
        for state, rank in paper:
            self._own[state] = min(rank, self._own.get(state, rank))

    def is_below(self, state, rank):
        """True if some state that is at least as good has a lesser rank."""
        if state in self._own and self._own[state] < rank:
            return True
        if state not in self._known:
            good = [other for other in self._own if _is_as_good(self._kind, other, state)]
            self._known[state] = sorted([self._own[other] for other in good])[:1]
        return self._known[state] != [] and self._known[state][0] < rank


def _is_as_good(kind, first, second):
    """True if the first state is at least as good as the second one."""
    if kind == "one" or len(first) != len(second):
        return first == second
    for part, other in zip(first, second):
        if any(many > more for many, more in zip(part, other)):
            return False
    return True


def judge_ranks(kind, window, pieces, backs, number, paper):
    """Raise BadPaper if this is not a right paper that no plan for more than so many letters keeps so many pieces."""
    _check(kind, window, pieces, backs)
    for state, rank in paper:
        if rank < 0 or not _is_state(kind, window, pieces, state):
            raise BadPaper("a state is not built as one, or a rank is below 0")
    for at in range(1, len(paper)):
        if paper[at - 1] >= paper[at]:
            raise BadPaper("the paper does not ascend")
    ranks = Ranks(kind, paper)
    if not ranks.is_below((), number + 1):
        raise BadPaper("the empty state is not there, or has a greater rank")
    for state, rank in paper:
        for _, behind in _replies(kind, window, pieces, backs, state):
            if not ranks.is_below(behind, rank):
                raise BadPaper("no lesser rank belongs to what comes behind a state")


def greatest_window(kind, pieces, backs):
    """The greatest window for which some rule keeps so many pieces."""
    check_kind(kind)
    check_limits(pieces, backs)
    window = 1
    # With the window 1, nothing but letters is asked.
    while window < MAX_WINDOW and growth(kind, window + 1, pieces, backs)[0] == "rule":
        window += 1
    return window


def greatest_log(kind, pieces, backs):
    """The greatest log of at most MAX_WINDOW letters, all of whose slices a plan keeps to so many pieces."""
    check_kind(kind)
    check_limits(pieces, backs)
    layer = {(): True}
    met = 1
    for many in range(1, MAX_WINDOW + 1):
        if met > MAX_MET:
            raise TooLarge("too many states are met")
        # No state is cut to the places that count yet, so that the states are those for each greater window.
        layer = _next_layer(kind, pieces, backs, layer, MAX_MET - met)
        if len(layer) == 0:
            return many - 1
        met += len(layer)
    return MAX_WINDOW


def _next_layer(kind, pieces, backs, layer, room):
    """A dict of the states that come behind some states of logs all of whose slices are asked.

    There may be fewer than all, if there is no room for so many.
    """
    found = {}
    for state in layer:
        for _, behind in _replies(kind, MAX_WINDOW, pieces, backs, state):
            found[behind] = True
        if len(found) > room:
            break
    return found


def greatest_stamps(pieces, backs):
    """The greatest window for which some stamps keep so many pieces, and the first choice that does."""
    check_limits(pieces, backs)
    window = 1
    choice = ()
    while window < MAX_WINDOW:
        found = _fair_stamps(window + 1, pieces, backs)
        if not found:
            break
        window += 1
        choice = found[0]
    return window, choice


def _fair_stamps(window, pieces, backs):
    """The list of the choices, in the order of tuples, that stamps keep so many pieces with."""
    offsets = list(range(2, window + 1))
    choices = sorted([choice for many in range(backs + 1) for choice in chosen(offsets, many)])
    return [choice for choice in choices if kept_pieces("many", window, ((), (choice,))) <= pieces]
