"""Schemes: stocks that answer all slices, and papers of cuts that fewer slices are not enough."""

from scarp.cases import MAX_CASED, judge_few
from scarp.errors import BadPaper, NotAllowed, TooLarge
from scarp.stocks import MAX_PIECES, MAX_SPAN, MAX_STOCK, all_slices, check_span

# More than any number of slices: what cannot be joined at all.
ENDLESS = 1000000


class Scheme:
    """How up to so many places are joined with a number of pieces, as [9.6] tells it."""

    def __init__(self, pieces, places):
        self._pieces = pieces
        # The scheme numbers, by the number of places.
        self.numbers = []
        # The least cost of both end gaps, by their places; and of inner gaps, by their places and their number.
        self._ends = []
        self._inner = []
        self._hubs = Scheme(pieces - 2, places) if pieces >= 2 else None
        for many in range(places + 1):
            self.numbers.append(self._number_for(many))
            if pieces >= 2:
                self._ends.append(min([self._end_cost(size) + self._end_cost(many - size) for size in range(many + 1)]))
                self._inner.append(self._inner_costs(many, places))

    def _number_for(self, many):
        """The scheme number for so many places, when those for fewer are there."""
        if many <= self._pieces + 1:
            return 0
        if self._pieces == 0:
            return ENDLESS
        if self._pieces == 1:
            return (many - 1) * (many - 2) // 2
        return min([cost for cost, _, _ in self._ways(many)])

    def _ways(self, many):
        """The list of the triples of a cost, a number of hubs, and a number of places in the end gaps."""
        ways = []
        for hubs in range(1, many + 1):
            if self._hubs.numbers[hubs] < ENDLESS:
                for ends in range(many - hubs + 1):
                    inner = self._inner[many - hubs - ends][hubs - 1]
                    ways.append((self._ends[ends] + inner + self._hubs.numbers[hubs], hubs, ends))
        return ways

    def _end_cost(self, size):
        """What the first or the last gap costs, if it has so many places."""
        return self.numbers[size] + max(0, size - 1)

    def _inner_cost(self, size):
        """What another gap costs, if it has so many places."""
        return self.numbers[size] + max(0, 2 * size - 1)

    def _inner_costs(self, many, places):
        """The least costs of inner gaps that have so many places together, by their number."""
        # Gaps and places that are more than all places together are never asked for; nor, with one hub, any gap.
        most = places - many if self._pieces > 2 else 0
        if many == 0:
            return [0 for _ in range(most + 1)]
        costs = [ENDLESS]
        for gaps in range(1, most + 1):
            # A gap without places costs nothing, so that the others have what one gap less has.
            rest = [self._inner[many - size][gaps - 1] + self._inner_cost(size) for size in range(1, many + 1)]
            costs.append(min([costs[-1]] + rest))
        return costs

    def _gaps(self, many):
        """The list of the places in each gap, in a best way to join so many places."""
        _, hubs, ends = min(self._ways(many))
        begun = 0
        while self._end_cost(begun) + self._end_cost(ends - begun) != self._ends[ends]:
            begun += 1
        gaps = [begun]
        rest = many - hubs - ends
        for more in range(hubs - 1, 0, -1):
            size = 0
            while self._inner[rest - size][more - 1] + self._inner_cost(size) != self._inner[rest][more]:
                size += 1
            gaps.append(size)
            rest -= size
        return gaps + [ends - begun]

    def slices(self, places):
        """The list of the slices that join some places, of which neighbours are joined already."""
        many = len(places)
        if many <= self._pieces + 1:
            return []
        if self._pieces == 1:
            return [(places[at], last) for at in range(many) for last in places[at + 2:]]
        found = []
        hubs = []
        at = 0
        for size in self._gaps(many):
            # Ahead of the first gap and behind the last one there is no hub.
            found.extend(_joined_gap(places[max(0, at - 1):at], places[at:at + size], places[at + size:at + size + 1]))
            found.extend(self.slices(places[at:at + size]))
            hubs.extend(places[at + size:at + size + 1])
            at += size + 1
        return found + self._hubs.slices(hubs)


def _joined_gap(left, gap, right):
    """The list of the slices between the places of a gap and the hubs beside it, each a list of one or none."""
    found = [(hub, place) for hub in left for place in gap[1:] + (right if gap else [])]
    return found + [(place, hub) for hub in right for place in gap[:-1]]


def _scheme_of(n, most):
    """The scheme for n letters."""
    check_span(n)
    if not 1 <= most <= MAX_PIECES:
        raise NotAllowed("the number of pieces is not from 1 to 6")
    return Scheme(most, n + 1)


def scheme_number(n, most):
    """The scheme number for n letters."""
    return _scheme_of(n, most).numbers[n + 1]


def scheme_stock(n, most):
    """A stock with so many slices that answers all slices."""
    scheme = _scheme_of(n, most)
    if scheme.numbers[n + 1] > MAX_STOCK:
        raise TooLarge("the stock would have too many slices")
    return tuple(sorted(scheme.slices(list(range(n + 1)))))


def _check_letters(n):
    """Raise NotAllowed if a number of letters is out of range for cut papers."""
    if not 0 <= n <= MAX_SPAN:
        raise NotAllowed("the number of letters is not from 0 to 60")


def _cut_numbers(n):
    """The list of the greatest values of cut papers without case papers, for up to n letters."""
    numbers = [0]
    for many in range(1, n + 1):
        numbers.append(max([0] + [_cut_worth(numbers, many, at) for at in range(1, many + 1)]))
    return numbers


def _cut_worth(numbers, many, at):
    """The value of a cut at a letter, with the best papers for what is ahead and behind."""
    return numbers[at - 1] + numbers[many - at] + min(at, many + 1 - at) - 1


def cut_number(n):
    """The greatest value of the cut papers for n letters that have no case papers."""
    _check_letters(n)
    return _cut_numbers(n)[n]


def cut_paper(n):
    """A cut paper for n letters without case papers, with the greatest value."""
    _check_letters(n)
    return _paper_for(_cut_numbers(n), n)


def _paper_for(numbers, n):
    """A cut paper that has the value that the numbers tell for n letters."""
    for at in range(1, n + 1):
        if numbers[n] > 0 and _cut_worth(numbers, n, at) == numbers[n]:
            return ("cut", at, _paper_for(numbers, at - 1), _paper_for(numbers, n - at))
    return ("none",)


def judge_cuts(n, number, paper):
    """Raise BadPaper if this is not a cut paper for n letters with at least this value."""
    _check_letters(n)
    if _value_of(n, paper) < number:
        raise BadPaper("the value is too small")


def _value_of(n, paper):
    """The value of a cut paper for n letters."""
    if paper == ("none",):
        return 0
    if paper[0] == "cases" and len(paper) == 3 and 1 <= n <= MAX_CASED:
        judge_few(n, 2, all_slices(n), paper[1], paper[2])
        return paper[1] + 1
    if paper[0] == "cut" and len(paper) == 4 and 1 <= paper[1] <= n:
        at = paper[1]
        return _value_of(at - 1, paper[2]) + _value_of(n - at, paper[3]) + min(at, n + 1 - at) - 1
    raise BadPaper("a part of the paper has another form")
