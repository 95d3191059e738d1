"""What stocks stand to lose, and what the slices cost that are asked more or less often."""

from scarp.choosing import chosen, count_chosen
from scarp.errors import NotAllowed, TooLarge
from scarp.stocks import check_slices, check_span, open_slice, piece_counts, shortened

MAX_WEIGHT = 99
MAX_LOST = 2
MAX_TRIED = 2000


def first_loss(n, most, asked, stock, many):
    """The first tuple of at most `many` slices of the stock whose loss it does not stand, None if there is none."""
    if not 0 <= many <= MAX_LOST:
        raise NotAllowed("the number of lost slices is not from 0 to 2")
    if count_chosen(len(stock), many) > MAX_TRIED:
        raise TooLarge("there are too many slices that can be lost")
    for size in range(many + 1):
        for lost in chosen(stock, size):
            kept = tuple([span for span in stock if span not in lost])
            if open_slice(n, most, asked, kept) is not None:
                return lost
    return None


def check_weights(n, weights):
    """Raise NotAllowed if a tuple of triples is not a weighted list for n letters."""
    check_span(n)
    check_slices(n, [(first, last) for first, last, _ in weights], 1)
    for _, _, weight in weights:
        if not 1 <= weight <= MAX_WEIGHT:
            raise NotAllowed("a weight is not from 1 to 99")


def total_of(n, stock, weights):
    """The total of a stock for a weighted list."""
    return _total(piece_counts(n, stock), weights)


def _total(counts, weights):
    """The sum of the weights, each times the number of pieces of its slice."""
    return sum([weight * counts[first][last] for first, last, weight in weights])


def best_stock(n, room, weights):
    """The least total of all stocks with at most `room` slices, and the first one that has it."""
    spans = [(first, last) for first in range(n) for last in range(first + 2, n + 1)]
    if room < 0:
        raise NotAllowed("there is room for less than no slice")
    if count_chosen(len(spans), room) > MAX_TRIED:
        raise TooLarge("there are too many stocks")
    stocks = [((), 0, piece_counts(n, ()))]
    best = (_total(stocks[0][2], weights), ())
    for _ in range(min(room, len(spans))):
        # Each stock with one slice more comes of the one without its last slice, so that the order stays.
        stocks = [(stock + (spans[at],), at + 1, shortened(counts, spans[at]))
                  for stock, begun, counts in stocks for at in range(begun, len(spans))]
        for stock, _, counts in stocks:
            total = _total(counts, weights)
            if total < best[0]:
                best = (total, stock)
    return best
