"""Questions about a log that stands fast: which slices to ask, with trees and papers that show it."""

from scarp.choosing import chosen
from scarp.errors import BadPaper, Missing, NotAllowed, TooLarge
from scarp.stocks import check_slices
from scarp.tables import value_of
from scarp.unseen import check_hidden

MAX_ALLOWED = 8
MAX_LOGS = 81
MAX_LOOKS = 2000
MAX_QUESTIONS = 4


def check_asking(table, n, allowed, goal):
    """Raise NotAllowed if these are not allowed slices and a goal, TooLarge if there are too many logs."""
    check_hidden(n)
    if len(allowed) > MAX_ALLOWED:
        raise NotAllowed("there are too many slices")
    check_slices(n, allowed, 1)
    if goal != ():
        check_slices(n, (goal,), 1)
    many = 1
    for _ in range(n):
        many = many * len(table[0])
        if many > MAX_LOGS:
            raise TooLarge("there are too many logs")


def _check_number(number):
    """Raise NotAllowed if a number of questions is out of range."""
    if not 0 <= number <= MAX_QUESTIONS:
        raise NotAllowed("the number of questions is not from 0 to 4")


class Asking:
    """All logs of so many letters, with their values in the slices that may be asked and in the goal.

    Logs are told by their numbers, in order; those that are left are an ascending tuple of such numbers.
    """

    def __init__(self, table, n, allowed, goal):
        check_asking(table, n, allowed, goal)
        self.allowed = allowed
        logs = [()]
        for _ in range(n):
            logs = [log + (letter,) for log in logs for letter in table[0]]
        self.logs = logs
        self.all_left = tuple(range(len(logs)))
        self.answers = [tuple([value_of(table, log[first:last]) for first, last in allowed]) for log in logs]
        self._goals = [log if goal == () else value_of(table, log[goal[0]:goal[1]]) for log in logs]

    def thing(self, number):
        """What the goal is for a log."""
        return self._goals[number]

    def apart(self, left):
        """The first of the logs that are left, and the first one that the goal tells apart from it; None without."""
        for number in left:
            if self._goals[number] != self._goals[left[0]]:
                return (left[0], number)
        return None

    def parts(self, left, at):
        """The ascending list of the pairs of a value of an allowed slice, and the logs that are left with it."""
        found = {}
        for number in left:
            found.setdefault(self.answers[number][at], []).append(number)
        return [(value, tuple(found[value])) for value in sorted(list(found))]

    def tells(self, indexes):
        """True if the allowed slices with these indexes tell the goal at once."""
        found = {}
        for number, answers in enumerate(self.answers):
            goal = found.setdefault(tuple([answers[at] for at in indexes]), self._goals[number])
            if goal != self._goals[number]:
                return False
        return True

    def tells_at_all(self):
        """True if all allowed slices together tell the goal."""
        return self.tells(list(range(len(self.allowed))))


class Looking:
    """Looking for a question tree, for one number of questions."""

    def __init__(self, asking):
        self._asking = asking
        self._looks = 0

    def look(self, left, number):
        """A tree for the logs that are left and so many questions, None if there is none."""
        self._looks += 1
        if self._looks > MAX_LOOKS:
            raise TooLarge("too many looks would be made")
        if self._asking.apart(left) is None:
            return ("told", self._asking.thing(left[0]))
        if number == 0:
            return None
        for at, span in enumerate(self._asking.allowed):
            parts = self._asking.parts(left, at)
            branches = self._branches(parts, number - 1) if len(parts) > 1 else None
            if branches is not None:
                return ("ask", span, branches)
        return None

    def _branches(self, parts, number):
        """A tree for each of the parts behind its value, None if there is none for one of them."""
        branches = []
        for value, left in parts:
            tree = self.look(left, number)
            if tree is None:
                return None
            branches.append((value, tree))
        return tuple(branches)


def least_questions(table, n, allowed, goal):
    """The least number of questions with which a right question tree is there."""
    asking = Asking(table, n, allowed, goal)
    if not asking.tells_at_all():
        raise Missing("the allowed slices do not tell the goal")
    number = 0
    while Looking(asking).look(asking.all_left, number) is None:
        number += 1
    return number


def question_tree(table, n, allowed, goal, number):
    """A right question tree for so many questions."""
    asking = Asking(table, n, allowed, goal)
    _check_number(number)
    tree = Looking(asking).look(asking.all_left, number)
    if tree is None:
        raise Missing("so many questions are not enough")
    return tree


def answer_paper(table, n, allowed, goal, number):
    """A right answer paper for so many questions."""
    asking = Asking(table, n, allowed, goal)
    _check_number(number)
    if Looking(asking).look(asking.all_left, number) is not None:
        raise Missing("so many questions are enough")
    return Answers(asking).paper(asking.all_left, number)


class Answers:
    """Answer papers; the one for the same logs that are left and the same number is made once."""

    def __init__(self, asking):
        self._asking = asking
        self._known = {}

    def paper(self, left, number):
        """An answer paper for the logs that are left and so many questions, None if there is none."""
        pair = self._asking.apart(left)
        if pair is None:
            return None
        if number == 0 or len(self._asking.allowed) == 0:
            return ("two", self._asking.logs[pair[0]], self._asking.logs[pair[1]])
        if (left, number) not in self._known:
            self._known[(left, number)] = self._rows_paper(left, number)
        return self._known[(left, number)]

    def _rows_paper(self, left, number):
        """An answer paper that has an answer to each allowed slice, None if there is none."""
        rows = []
        for at in range(len(self._asking.allowed)):
            row = self._row_for(self._asking.parts(left, at), number - 1)
            if row is None:
                return None
            rows.append(row)
        return ("answers", tuple(rows))

    def _row_for(self, parts, number):
        """The first value of a slice behind which there is a paper, with the paper; None if there is none."""
        for value, left in parts:
            paper = self.paper(left, number)
            if paper is not None:
                return (value, paper)
        return None


def judge_questions(table, n, allowed, goal, number, tree):
    """Raise BadPaper if this is not a right question tree for so many questions."""
    asking = Asking(table, n, allowed, goal)
    _check_number(number)
    _judge_tree(asking, asking.all_left, number, tree)


def _judge_tree(asking, left, number, tree):
    """Raise BadPaper if this is not a right question tree for the logs that are left."""
    if tree[0] == "told" and len(tree) == 2:
        if any(asking.thing(log) != tree[1] for log in left):
            raise BadPaper("what is told is not what all logs have")
    elif tree[0] == "ask" and len(tree) == 3 and number > 0 and tree[1] in asking.allowed:
        parts = asking.parts(left, asking.allowed.index(tree[1]))
        if [value for value, _ in parts] != [value for value, _ in tree[2]]:
            raise BadPaper("there is not one branch for each value")
        for part, branch in zip(parts, tree[2]):
            _judge_tree(asking, part[1], number - 1, branch[1])
    else:
        raise BadPaper("a part of the tree has another form, asks too much, or what is not allowed")


def judge_answers(table, n, allowed, goal, number, paper):
    """Raise BadPaper if this is not a right answer paper for so many questions."""
    asking = Asking(table, n, allowed, goal)
    _check_number(number)
    _judge_paper(asking, asking.all_left, number, paper)


def _judge_paper(asking, left, number, paper):
    """Raise BadPaper if this is not a right answer paper for the logs that are left."""
    if paper[0] == "two" and len(paper) == 3:
        _judge_two(asking, left, number, paper[1:])
    elif paper[0] == "answers" and len(paper) == 2 and number > 0 and len(asking.allowed) > 0:
        if len(paper[1]) != len(asking.allowed):
            raise BadPaper("there is not one answer for each slice")
        for at, (value, rest) in enumerate(paper[1]):
            logs = [part for other, part in asking.parts(left, at) if other == value]
            if not logs:
                raise BadPaper("no log that is left has this value")
            _judge_paper(asking, logs[0], number - 1, rest)
    else:
        raise BadPaper("a part of the paper has another form, or there is no question left")


def _judge_two(asking, left, number, pair):
    """Raise BadPaper if two logs are not left, not told apart, or can be told apart by a question that is left."""
    numbers = [log for log in left if asking.logs[log] in pair]
    if asking.apart(numbers) is None:
        raise BadPaper("these are not two logs that are left and told apart")
    if number > 0 and asking.answers[numbers[0]] != asking.answers[numbers[1]]:
        raise BadPaper("a slice has other values in the two logs")


def fixed_questions(table, n, allowed, goal):
    """The first tuple of allowed slices that tell the goal at once; those with fewer slices come first."""
    asking = Asking(table, n, allowed, goal)
    for many in range(len(allowed) + 1):
        for indexes in chosen(list(range(len(allowed))), many):
            if asking.tells(indexes):
                return tuple([allowed[at] for at in indexes])
    raise Missing("the allowed slices do not tell the goal")
