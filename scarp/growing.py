"""Logs that grow: which slices are stored behind each letter, and how few pieces all others take."""

from scarp.choosing import chosen
from scarp.errors import NotAllowed

MAX_WINDOW = 12
MAX_PIECES = 6
MAX_BACKS = 3

# The most choices of a rule that is not judged.
MAX_CHOICES = 60


def check_kind(kind):
    """Raise NotAllowed if a text is no kind."""
    if kind not in ("many", "one"):
        raise NotAllowed("there is no such kind")


def check_window(window):
    """Raise NotAllowed if an integer is no window."""
    if not 1 <= window <= MAX_WINDOW:
        raise NotAllowed("the window is not from 1 to 12")


def check_limits(pieces, backs):
    """Raise NotAllowed if a number of pieces or of offsets is out of range."""
    if not 1 <= pieces <= MAX_PIECES:
        raise NotAllowed("the number of pieces is not from 1 to 6")
    if not 0 <= backs <= MAX_BACKS:
        raise NotAllowed("the number of offsets is not from 0 to 3")


def are_choices(window, choices):
    """True if all of some tuples of integers are choices for the window."""
    return all(_is_choice(window, choice) for choice in choices)


def _is_choice(window, choice):
    """True if a tuple of integers is a choice for the window."""
    least = 2
    for offset in choice:
        if not least <= offset <= window:
            return False
        least = offset + 1
    return True


def check_rule(window, rule):
    """Raise NotAllowed if this is not a rule for the window with 1 to 60 choices."""
    choices = rule[0] + rule[1]
    if not are_choices(window, choices):
        raise NotAllowed("a choice does not ascend, or has an offset that is not from 2 to the window")
    if not 1 <= len(choices) <= MAX_CHOICES:
        raise NotAllowed("the rule has no choice, or too many")


def choice_at(rule, place):
    """The choice that a rule makes behind the letter that ends at a place, None if the rule is a plan that is over."""
    stem, cycle = rule
    if place <= len(stem):
        return stem[place - 1]
    if cycle == ():
        return None
    return cycle[(place - len(stem) - 1) % len(cycle)]


def full_choices(kind, window, backs, place):
    """The list of the full choices behind the letter that ends at a place, in the order of tuples."""
    check_kind(kind)
    check_window(window)
    check_limits(1, backs)
    offsets = list(range(2, min(place, window) + 1))
    most = min(backs, len(offsets))
    least = most if kind == "many" else 0
    return sorted([choice for many in range(least, most + 1) for choice in chosen(offsets, many)])


def begins_at(last, choice):
    """The list of the places at which the slices begin that a choice stores when a place is the last one."""
    return [last - offset for offset in (1,) + choice if offset <= last]


class Stored:
    """The slices that are stored while a log grows, as far as they begin at one of the last places."""

    def __init__(self, kind, window):
        self._kind = kind
        self._window = window
        self.last = 0
        # For each place that a slice begins at that is asked, the ascending list of where those end that are stored.
        self.ends = {}

    def twin(self):
        """The same slices once more."""
        other = Stored(self._kind, self._window)
        other.last = self.last
        other.ends = {place: list(self.ends[place]) for place in self.ends}
        return other

    def grow(self, choice):
        """Let the next letter come, and make a choice behind it."""
        self.last += 1
        for place in begins_at(self.last, choice):
            longer = self.ends.get(place, []) if self._kind == "many" else []
            self.ends[place] = longer + [self.last]
        self.ends = {place: self.ends[place] for place in sorted(list(self.ends)) if place >= self.last - self._window}

    def fewest(self):
        """A dict of the fewest pieces from each place at which a slice begins that is asked to the last place."""
        counts = {self.last: 0}
        for place in sorted(list(self.ends), reverse=True):
            counts[place] = 1 + min([counts[end] for end in self.ends[place]])
        return counts

    def first_row(self, place):
        """The first row from a place to the last place: it goes as far as it can with each of the fewest pieces."""
        counts = self.fewest()
        row = [place]
        while row[-1] != self.last:
            wanted = counts[row[-1]] - 1
            row.append(max([end for end in self.ends[row[-1]] if counts[end] == wanted]))
        return row


def _letters_of(window, rule):
    """A number of letters behind which a rule brings nothing that was not there before, or all letters of a plan."""
    stem, cycle = rule
    # What is asked hangs on the last choices alone, so that it comes again with the cycle.
    return len(stem) + window + len(cycle) if cycle != () else len(stem)


def kept_pieces(kind, window, rule):
    """The least number of pieces that a rule keeps, of any length."""
    stored = Stored(kind, window)
    most = 0
    for place in range(1, _letters_of(window, rule) + 1):
        stored.grow(choice_at(rule, place))
        most = max([most] + list(stored.fewest().values()))
    return most


def pieces_of(kind, window, rule):
    """The least number of pieces that a rule keeps."""
    check_kind(kind)
    check_window(window)
    check_rule(window, rule)
    return kept_pieces(kind, window, rule)


def most_stored(kind, window, rule):
    """The greatest number of slices that are kept behind one letter."""
    check_kind(kind)
    check_window(window)
    check_rule(window, rule)
    stored = Stored(kind, window)
    most = 0
    for place in range(1, _letters_of(window, rule) + 1):
        stored.grow(choice_at(rule, place))
        most = max(most, sum([len(ends) for ends in stored.ends.values()]))
    return most


def most_needed(window, rule):
    """The greatest number of slices that are needed behind one letter, for the kind `many`."""
    check_window(window)
    check_rule(window, rule)
    letters = _letters_of(window, rule)
    # A slice is needed from when it is stored until it is used last; it is asked for while the window reaches it.
    later = window if rule[1] != () else 0
    used = {}
    stored = Stored("many", window)
    for place in range(1, letters + later + 1):
        stored.grow(choice_at(rule, place))
        for begin in stored.ends:
            row = stored.first_row(begin)
            for at in range(len(row) - 1):
                used[(row[at], row[at + 1])] = place
    return max([_count_needed(used, place) for place in range(1, letters + 1)])


def _count_needed(used, place):
    """The number of the slices that are stored behind a letter, and used then or later."""
    return len([span for span in used if span[1] <= place <= used[span]])


def state_after(kind, window, choices):
    """The state behind as many letters as there are choices."""
    check_kind(kind)
    check_window(window)
    if not are_choices(window, choices):
        raise NotAllowed("a choice does not ascend, or has an offset that is not from 2 to the window")
    state = ()
    for choice in choices:
        state, _ = grown(kind, window, state, choice)
    return state


def grown(kind, window, state, choice):
    """The state behind one letter more, and the most pieces that a slice has that is asked then."""
    # Places are counted from the first one that the state tells of; the letter that comes ends behind the last one.
    begun = begins_at(len(state) + 1, choice)
    if kind == "many":
        return _grown_many(window, state, begun)
    return _grown_one(window, state, begun)


def _grown_many(window, state, begun):
    """The state of the kind `many` when slices are stored that begin at some places, and the most pieces."""
    row = []
    for place in range(len(state) + 1):
        # A slice that begins at the place itself is one piece; state[at - 1] has the pieces to the place `at`.
        row.append(min([1 if at == place else state[at - 1][place] + 1 for at in begun if at >= place]))
    rows = state + (tuple(row),)
    if len(rows) == window:
        rows = tuple([pieces[1:] for pieces in rows[1:]])
    return rows, max(row)


def _grown_one(window, state, begun):
    """The state of the kind `one` when slices are stored that begin at some places, and the most pieces."""
    last = len(state) + 1
    backs = [0 if place in begun else back + 1 for place, back in enumerate(state + (0,))]
    counts = [0 for _ in range(last + 1)]
    for place in range(last - 1, -1, -1):
        counts[place] = counts[last - backs[place]] + 1
    if last == window:
        backs = backs[1:]
    return tuple(backs), max(counts)
