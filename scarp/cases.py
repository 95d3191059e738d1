"""The fewest slices that have to be stored to meet a demand, by cases, with a paper that fewer are not enough."""

from scarp.errors import BadPaper, Missing, NotAllowed, TooLarge
from scarp.stocks import first_open, piece_counts, shortened

MAX_CASED = 12
MAX_CASES = 1000


class Demand:
    """What is asked, and the states that are looked at for it."""

    def __init__(self, n, most, asked):
        if n > MAX_CASED:
            raise NotAllowed("there are too many letters for cases")
        self._most = most
        self._asked = asked
        self.first = State((), (), piece_counts(n, ()))

    def unanswered(self, state):
        """The list of the slices that are asked and not answered by what is taken."""
        return [span for span in self._asked if state.counts[span[0]][span[1]] > self._most]


class State:
    """The slices that are taken and those that are refused, and the fewest pieces from each place to each."""

    def __init__(self, taken, refused, counts):
        self.taken = taken
        self.refused = refused
        self.counts = counts

    def cases(self, span):
        """The list of the pairs of a choice within a slice, and the state in which it is taken."""
        first, last = span
        choices = []
        for size in range(last - first, 1, -1):
            for start in range(first, last - size + 1):
                choice = (start, start + size)
                if choice not in self.taken and choice not in self.refused:
                    choices.append(choice)
        return [self._taking(choice, tuple(choices[:at])) for at, choice in enumerate(choices)]

    def _taking(self, choice, refused):
        """The state in which a choice is taken, and those ahead of it are refused."""
        return State(self.taken + (choice,), self.refused + refused, shortened(self.counts, choice))


def _apart(spans):
    """A tuple of as many of some slices as there can be, no two of them with a letter in common."""
    chosen = []
    for last, first in sorted([(last, first) for first, last in spans]):
        if not chosen or first >= chosen[-1][1]:
            chosen.append((first, last))
    return tuple(chosen)


class Search:
    """Looking for a stock with at most so many slices that meets a demand."""

    def __init__(self, number):
        self._number = number
        self._looked = 0

    def look(self, demand, state):
        """Look at a state: the word for it and the stock if one is found, otherwise a case paper."""
        self._looked += 1
        if self._looked > MAX_CASES:
            raise TooLarge("too many cases would be looked at")
        spans = demand.unanswered(state)
        apart = _apart(spans)
        if len(state.taken) + len(apart) > self._number:
            return ("full", apart)
        if not spans:
            return ("found", tuple(sorted(list(state.taken))))
        span = first_open(spans)
        papers = []
        for case in state.cases(span):
            paper = self.look(demand, case)
            if paper[0] == "found":
                return paper
            papers.append(paper)
        return ("cases", span, tuple(papers))


def least_stock(n, most, asked):
    """The least stock of a demand."""
    demand = Demand(n, most, asked)
    number = 0
    answer = Search(number).look(demand, demand.first)
    while answer[0] != "found":
        number += 1
        answer = Search(number).look(demand, demand.first)
    return answer[1]


def too_few(n, most, asked, number):
    """A case paper that no stock with at most so many slices meets a demand."""
    demand = Demand(n, most, asked)
    paper = Search(number).look(demand, demand.first)
    if paper[0] == "found":
        raise Missing("some stock meets the demand")
    return paper


def judge_few(n, most, asked, number, paper):
    """Raise BadPaper if this is not a case paper for the number."""
    demand = Demand(n, most, asked)
    # A list of what waits, not recursion: a wrong paper may be nested deeper than any right one.
    waiting = [(demand.first, paper)]
    while waiting:
        state, tree = waiting.pop()
        spans = demand.unanswered(state)
        if tree[0] == "full" and len(tree) == 2:
            _check_full(spans, tree[1], number - len(state.taken))
        elif tree[0] == "cases" and len(tree) == 3 and tree[1] in spans:
            cases = state.cases(tree[1])
            if len(cases) != len(tree[2]):
                raise BadPaper("there is not one tree for each choice")
            waiting.extend(list(zip(cases, tree[2])))
        else:
            raise BadPaper("a tree has another form, or tells of a slice that is not asked, or answered")


def _check_full(spans, chosen, room):
    """Raise BadPaper if chosen slices are not more than there is room for, or not some of these and apart."""
    for span in chosen:
        if span not in spans:
            raise BadPaper("a slice is not asked, or answered")
    if len(_apart(chosen)) != len(chosen):
        raise BadPaper("two slices have a letter in common")
    if len(chosen) <= room:
        raise BadPaper("the slices are not too many")
