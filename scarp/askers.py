"""Askers and answerers: those who play by question trees and by answer papers."""

from scarp.errors import Missing, NotAllowed
from scarp.questions import judge_answers, judge_questions
from scarp.tables import value_of


class Asker:
    """One who asks by a right question tree."""

    def __init__(self, table, n, allowed, goal, number, tree):
        judge_questions(table, n, allowed, goal, number, tree)
        # The tree, and what is left of it behind each answer.
        self._trees = [tree]
        self._pairs = []

    def question(self):
        """The slice that the tree asks next."""
        tree = self._trees[-1]
        if tree[0] == "told":
            raise Missing("there is nothing more to be asked")
        return tree[1]

    def answer(self, value):
        """Take the answer."""
        span = self.question()
        trees = [tree for other, tree in self._trees[-1][2] if other == value]
        if not trees:
            raise NotAllowed("no log that is left has this value")
        self._pairs.append((span, value))
        self._trees.append(trees[0])

    def told(self):
        """The log or the value that is told at the end of the tree."""
        tree = self._trees[-1]
        if tree[0] != "told":
            raise Missing("the goal is not told yet")
        return tree[1]

    def asked(self):
        """The tuple of the pairs of a slice and its answer so far."""
        return tuple(self._pairs)

    def back(self):
        """Take the last answer back."""
        if len(self._pairs) == 0:
            raise Missing("there is no answer")
        self._pairs.pop()
        self._trees.pop()


class Answerer:
    """One who answers by a right answer paper."""

    def __init__(self, table, n, allowed, goal, number, paper):
        judge_answers(table, n, allowed, goal, number, paper)
        self._table = table
        self._allowed = allowed
        self._limit = number
        # The paper, and what is left of it behind each answer.
        self._papers = [paper]
        self._pairs = []

    def answer(self, span):
        """Answer a question; return the value of the slice."""
        if span not in self._allowed:
            raise NotAllowed("this slice is not allowed")
        if len(self._pairs) == self._limit:
            raise Missing("there are no more questions")
        paper = self._papers[-1]
        if paper[0] == "two":
            # Both logs have the same values in all slices that are allowed.
            value = value_of(self._table, paper[1][span[0]:span[1]])
        else:
            value, paper = paper[1][self._allowed.index(span)]
        self._pairs.append((span, value))
        self._papers.append(paper)
        return value

    def two(self):
        """The pair of two logs that are left and told apart by the goal."""
        paper = self._papers[-1]
        if paper[0] != "two":
            raise Missing("the paper has not come to two logs yet")
        return paper[1:]

    def asked(self):
        """The tuple of the pairs of a slice and its answer so far."""
        return tuple(self._pairs)

    def back(self):
        """Take the last answer back."""
        if len(self._pairs) == 0:
            raise Missing("there is no answer")
        self._pairs.pop()
        self._papers.pop()
