"""Stands: what has to be known of the levels so far to go on with a split."""

from scarp.errors import NotAllowed
from scarp.green import idempotents
from scarp.tables import element_of, times


def starts(height):
    """The list of the starts, for the levels from 1 on."""
    return [start_at(height, level) for level in range(1, height + 1)]


def start_at(height, level):
    """The start with this level."""
    return opened(((),) * height, level)


def opened(entries, level):
    """The stand with a new class at a level; all greater levels are closed."""
    return _entered(entries, level, -1)


def _entered(entries, level, unit):
    """The stand behind a step to a level, whose class has this unit now."""
    return entries[:level - 1] + ((-1, unit),) + ((),) * (len(entries) - level)


def kept_units(table, kind):
    """For each element the unit that a class keeps which has it as a value, -1 if it is no idempotent.

    A unit fits an idempotent exactly if the same one is kept for both: for the kind forward, idempotents
    that fit one another are those of one left class.
    """
    units = idempotents(table)
    kept = [-1 for _ in table[2]]
    for unit in units:
        kept[unit] = unit if kind == "good" else _least_fitting(table, units, unit)
    return kept


def _least_fitting(table, units, element):
    """The least of the idempotents that fit one of them as a unit, for the kind forward."""
    for unit in units:
        if times(table, unit, element) == unit and times(table, element, unit) == element:
            return unit
    return element


def moved(table, stand, letter):
    """The entries of a stand with the values behind a letter."""
    element = element_of(table, letter)
    return tuple([() if entry == () else (times(table, entry[0], element), entry[1]) for entry in stand])


def landing(kept, entries, level):
    """The stand to which a step leads from moved entries, None if it is not possible."""
    entry = entries[level - 1]
    if entry == ():
        return opened(entries, level)
    value, unit = entry
    if kept[value] == -1 or (unit != -1 and kept[unit] != kept[value]):
        return None
    return _entered(entries, level, kept[value])


def step(table, kind, stand, letter, level):
    """The stand to which a step leads, None if it is not possible."""
    return landing(kept_units(table, kind), moved(table, stand, letter), level)


def possible(table, kind, stand, letter):
    """The ascending list of the levels to which a step by the letter is possible."""
    kept = kept_units(table, kind)
    entries = moved(table, stand, letter)
    return [level for level in range(1, len(stand) + 1) if landing(kept, entries, level) is not None]


class Steps:
    """The possible steps over a table, for a kind; those from one stand by one letter are worked out once."""

    def __init__(self, table, kind):
        self._table = table
        self._kept = kept_units(table, kind)
        self._known = {}

    def from_stand(self, stand, letter):
        """The list of the pairs of a level and the stand to which the step leads, for each possible step."""
        key = (stand, letter)
        if key not in self._known:
            entries = moved(self._table, stand, letter)
            reached = [(level, landing(self._kept, entries, level)) for level in range(1, len(stand) + 1)]
            self._known[key] = [(level, behind) for level, behind in reached if behind is not None]
        return self._known[key]


def check_stands(table, height, stands):
    """Raise NotAllowed if one of some tuples is not a stand of this height."""
    units = idempotents(table)
    for stand in stands:
        if len(stand) != height:
            raise NotAllowed("a stand has another height")
        for entry in stand:
            if entry != () and not (-1 <= entry[0] < len(table[2]) and (entry[1] == -1 or entry[1] in units)):
                raise NotAllowed("a stand has a value that is no element, or a unit that is no idempotent")


def freer(first, second):
    """True if the first stand is at least as free as the second one."""
    for at, entry in enumerate(first):
        if entry not in _freer_entries(second[at]):
            return False
    return True


def _freer_entries(entry):
    """The list of the entries that are at least as free as an entry."""
    if entry == ():
        return [()]
    if entry[1] == -1:
        return [(), entry]
    return [(), (entry[0], -1), entry]


def freest(stands):
    """The list of the freest of some stands of the same height."""
    present = {stand: True for stand in stands}
    return [stand for stand in sorted(list(present)) if not _has_freer(present, stand)]


def _has_freer(present, stand):
    """True if another stand that is present is at least as free."""
    return any(other in present and other != stand for other in freer_stands(stand))


def freer_stands(stand):
    """The list of all stands that are at least as free as a stand, itself among them."""
    # These are few, as there are at most four levels: that is quicker than to compare all pairs.
    found = [()]
    for entry in stand:
        found = [begun + (free,) for begun in found for free in _freer_entries(entry)]
    return found
