"""Machines: finite readers of logs, and the least machine of a pattern."""

from scarp.errors import NotAllowed, TooLarge
from scarp.words import check_letters

MAX_ROOMS = 8


def check_machine(machine):
    """Raise NotAllowed if a triple is not a machine."""
    letters, moves, granted = machine
    check_letters(letters)
    if not 1 <= len(moves) <= MAX_ROOMS:
        raise NotAllowed("a machine has 1 to 8 rooms")
    for row in moves:
        if len(row) != len(letters):
            raise NotAllowed("a room has not one move for each letter")
        _check_rooms(row, len(moves))
    _check_rooms(granted, len(moves))
    for at in range(1, len(granted)):
        if granted[at - 1] >= granted[at]:
            raise NotAllowed("the rooms that let by do not ascend")


def _check_rooms(rooms, many):
    """Raise NotAllowed if one of the rooms is not there."""
    for room in rooms:
        if not 0 <= room < many:
            raise NotAllowed("there is no such room")


def room_behind(machine, log):
    """The room behind a log."""
    letters, moves, _ = machine
    room = 0
    for letter in log:
        room = moves[room][letters.index(letter)]
    return room


def lets(machine, log):
    """True if the machine lets the log by."""
    return room_behind(machine, log) in machine[2]


def least_machine(machine):
    """The least machine that lets the same logs by."""
    return _least_of(machine[0], 0, _room_move(machine), _room_grant(machine))


def _room_move(machine):
    """The move of a machine: from a room, by the letter with an index."""
    return lambda room, at: machine[1][room][at]


def _room_grant(machine):
    """Tells whether a machine lets by the logs that lead to a room."""
    return lambda room: room in machine[2]


def turned(machine):
    """The least machine that lets just the other logs by."""
    letters, moves, granted = machine
    others = tuple([room for room in range(len(moves)) if room not in granted])
    return least_machine((letters, moves, others))


def joined(first, second, word):
    """The least machine of the logs that both machines, or at least one of them, let by."""
    _check_same_letters(first, second)

    def granted(rooms):
        if word == "and":
            return rooms[0] in first[2] and rooms[1] in second[2]
        return rooms[0] in first[2] or rooms[1] in second[2]

    return _least_of(first[0], (0, 0), _pair_move(first, second), granted)


def _check_same_letters(first, second):
    """Raise NotAllowed if two machines do not have the same letters."""
    if first[0] != second[0]:
        raise NotAllowed("the machines do not have the same letters")


def _pair_move(first, second):
    """The move of two machines that read the same log side by side."""
    return lambda rooms, at: (first[1][rooms[0]][at], second[1][rooms[1]][at])


def machine_of(letters, pattern):
    """The least machine of a pattern."""
    head = pattern[0]
    if head == "letter":
        return _short_machine(letters, (pattern[1],), (1,))
    if head == "any":
        return _short_machine(letters, letters, (1,))
    if head == "empty":
        return _short_machine(letters, (), (0,))
    if head == "none":
        return _short_machine(letters, (), ())
    first = machine_of(letters, pattern[1])
    if head == "not":
        return turned(first)
    if head == "again":
        return _repeated(first)
    second = machine_of(letters, pattern[2])
    if head == "row":
        return _followed(first, second)
    return joined(first, second, head)


def _short_machine(letters, ahead, granted):
    """The least machine with room 1 behind each of the letters ahead, and room 2 behind all other logs."""
    away = tuple([2 for _ in letters])
    begin = tuple([1 if letter in ahead else 2 for letter in letters])
    return least_machine((letters, (begin, away, away), granted))


def _repeated(machine):
    """The least machine of rows of logs that the machine lets by."""

    def move(state, at):
        rooms = _moved_rooms(machine, state[1], at)
        if _has_room(rooms, machine[2]) and 0 not in rooms:
            rooms = (0,) + rooms
        return (False, rooms)

    def granted(state):
        return state[0] or _has_room(state[1], machine[2])

    # The beginning is a state of its own: it lets the empty log by, which room 0 need not do.
    return _least_of(machine[0], (True, (0,)), move, granted)


def _followed(first, second):
    """The least machine of logs that the first machine lets by, followed by ones of the second."""

    def entered(room, rooms):
        if room in first[2] and 0 not in rooms:
            return (room, (0,) + rooms)
        return (room, rooms)

    def move(state, at):
        return entered(first[1][state[0]][at], _moved_rooms(second, state[1], at))

    return _least_of(first[0], entered(0, ()), move, lambda state: _has_room(state[1], second[2]))


def _moved_rooms(machine, rooms, at):
    """The ascending tuple of the rooms to which a letter leads from some rooms."""
    behind = {machine[1][room][at]: True for room in rooms}
    return tuple(sorted(list(behind)))


def _has_room(rooms, granted):
    """True if one of the rooms lets by."""
    return any(room in granted for room in rooms)


def _explored(many, start, move):
    """The states that many letters lead to from the start, by their first logs, and their moves."""
    states = [start]
    numbers = {start: 0}
    moves = []
    while len(moves) < len(states):
        state = states[len(moves)]
        row = []
        for at in range(many):
            behind = move(state, at)
            if behind not in numbers:
                numbers[behind] = len(states)
                states.append(behind)
            row.append(numbers[behind])
        moves.append(row)
    return states, moves


def _numbered(keys):
    """Numbers of keys, the same for the same keys, in the order in which they come first."""
    numbers = {}
    row = []
    for key in keys:
        if key not in numbers:
            numbers[key] = len(numbers)
        row.append(numbers[key])
    return row


def _least_of(letters, start, move, granted):
    """The least machine of the logs that lead from the start to a state that is granted."""
    states, moves = _explored(len(letters), start, move)
    fair = [granted(state) for state in states]
    before = []
    marks = _numbered(fair)
    # What is told apart once stays so: the marks only get more, and each mark needs a room.
    while marks != before:
        if max(marks) >= MAX_ROOMS:
            raise TooLarge("the least machine has too many rooms")
        before = marks
        marks = _numbered([(marks[at],) + tuple([marks[to] for to in moves[at]]) for at in range(len(moves))])
    firsts = [marks.index(room) for room in range(max(marks) + 1)]
    rows = tuple([tuple([marks[to] for to in moves[at]]) for at in firsts])
    return (letters, rows, tuple([room for room in range(len(firsts)) if fair[firsts[room]]]))


def first_log(machine):
    """The first log that the machine lets by, None if there is none."""
    return _first_granted(machine[0], 0, _room_move(machine), _room_grant(machine))


def first_apart(first, second):
    """The first log that just one of two machines lets by, None if there is none."""
    _check_same_letters(first, second)

    def apart(rooms):
        return (rooms[0] in first[2]) != (rooms[1] in second[2])

    return _first_granted(first[0], (0, 0), _pair_move(first, second), apart)


def _first_granted(letters, start, move, granted):
    """The first log that leads from the start to a state that is granted, None if there is none."""
    states, moves = _explored(len(letters), start, move)
    for number, state in enumerate(states):
        if granted(state):
            return _log_to(letters, moves, number)
    return None


def _log_to(letters, moves, number):
    """The first log to a state, where states are numbered in the order of their first logs."""
    log = ()
    while number != 0:
        at = 0
        # The first state with a move to this one is the one that found it.
        while number not in moves[at]:
            at += 1
        log = (letters[moves[at].index(number)],) + log
        number = at
    return log
