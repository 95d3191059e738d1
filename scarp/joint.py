"""Several readers: one table for all of them, and a panel that asks them about slices of a log."""

from scarp.builds import split_of
from scarp.errors import Missing, NotAllowed
from scarp.index import Index
from scarp.tables import grown_table

MAX_READERS = 4


def joint_table(letters, machines):
    """The joint table of a list of machines over these letters, and the tuple of their wishes."""
    if len(machines) > MAX_READERS:
        raise NotAllowed("there are too many machines")
    if any(machine[0] != letters for machine in machines):
        raise NotAllowed("a machine has other letters")
    begun = [tuple([_way_of(machine, at) for machine in machines]) for at in range(len(letters))]
    table, ways = grown_table(letters, begun, _ways_behind)
    return table, tuple([_wish_of(machine, [way[at] for way in ways]) for at, machine in enumerate(machines)])


def _way_of(machine, at):
    """For each room of a machine, the room to which the letter with an index leads."""
    return tuple([row[at] for row in machine[1]])


def _ways_behind(first, second):
    """The ways of machines through two logs, one behind the other."""
    return tuple([tuple([later[room] for room in way]) for way, later in zip(first, second)])


def _wish_of(machine, ways):
    """The wish of a machine whose ways through the logs of the elements are these, in their order."""
    empty = (-1,) if 0 in machine[2] else ()
    return empty + tuple([element for element, way in enumerate(ways) if way[0] in machine[2]])


class Panel:
    """Some machines, asked about slices of one log."""

    def __init__(self, letters, machines, log):
        table, wishes = joint_table(letters, machines)
        self._wishes = wishes
        self._index = Index(table, "good", log, split_of(table, log))

    def lets(self, number, first, last):
        """True if the machine with this index lets the letters of the slice by."""
        if not 0 <= number < len(self._wishes):
            raise Missing("there is no such machine")
        return self._index.value(first, last) in self._wishes[number]

    def pieces(self, first, last):
        """The list of the pieces of a slice, each its two places and its value."""
        return self._index.pieces(first, last)
