"""A shelf: the values of the slices of a stock, and those of all other slices made from them."""

from scarp.errors import NotAllowed
from scarp.stocks import MAX_SPAN, check_stock, row_of
from scarp.tables import element_of, times


class Shelf:
    """The stored values for one log, whose letters may be changed; all products are counted."""

    def __init__(self, table, log, stock):
        self._span = min(len(log), MAX_SPAN)
        check_stock(self._span, stock)
        self._table = table
        self._row = list(log)
        self._stock = stock
        self._made = 0
        # The slices of the stock in the order in which they are worked out, and the row of each by the others.
        sized = sorted([(last - first, first, last) for first, last in stock])
        self._order = [(first, last) for _, first, last in sized]
        self._rows = {span: row_of(self._span, _without(stock, span), span) for span in stock}
        self._stored = {}
        for span in self._order:
            self._work_out(span)

    def _work_out(self, span):
        """Work out the value of a slice of the stock, when those of the shorter ones are there."""
        parts = self._parts(self._rows[span])
        self._stored[span] = self._product(parts)
        self._made += len(parts) - 1

    def _parts(self, row):
        """The list of the pieces of a row, each its two places and its value."""
        return [(row[at], row[at + 1], self._part(row[at], row[at + 1])) for at in range(len(row) - 1)]

    def _part(self, first, last):
        """The value of a letter or of a slice of the stock."""
        if last == first + 1:
            return element_of(self._table, self._row[first])
        return self._stored[(first, last)]

    def _product(self, parts):
        """The product of the values of some pieces, -1 if there is none."""
        value = -1
        for _, _, part in parts:
            value = times(self._table, value, part)
        return value

    def value(self, first, last):
        """The value of a slice, worked out from its row."""
        parts = self.pieces(first, last)
        self._made += max(0, len(parts) - 1)
        return self._product(parts)

    def pieces(self, first, last):
        """The list of the pieces of a slice, each its two places and its value."""
        if not 0 <= first <= last <= len(self._row):
            raise NotAllowed("the log has no such slice")
        # No slice of the stock leads over the place 60, so that each row goes through it.
        end = min(last, self._span)
        row = row_of(self._span, self._stock, (first, end)) if first < end else (first,)
        return self._parts(row + tuple(range(row[-1] + 1, last + 1)))

    def change(self, place, letter):
        """Change the letter behind a place; return the number of the products that this takes."""
        if not 0 <= place < len(self._row):
            raise NotAllowed("there is no letter behind this place")
        if letter not in self._table[0]:
            raise NotAllowed("there is no such letter")
        before = self._made
        self._row[place] = letter
        for span in self._order:
            if span[0] <= place < span[1]:
                self._work_out(span)
        return self._made - before

    def log(self):
        """The log."""
        return tuple(self._row)

    def stock(self):
        """The stock."""
        return self._stock

    def products(self):
        """The number of all products so far."""
        return self._made


def _without(stock, span):
    """A stock without one of its slices."""
    return tuple([other for other in stock if other != span])
