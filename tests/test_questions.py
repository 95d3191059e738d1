"""Tests of scarp.questions: [12.3] to [12.7]."""

import itertools
import random
import unittest

from scarp import questions
from scarp.errors import BadPaper, Missing, NotAllowed, TooLarge
from scarp.questions import (answer_paper, check_asking, fixed_questions, judge_answers, judge_questions,
                             least_questions, question_tree)
from tests.samples import BRANDT, LEFT_ZERO, RIGHT_ZERO, THREE_ROOMS, TRIVIAL, TURN, random_tables, slow_value

FOUR = (("a", "b", "c", "d"), (0, 0, 0, 0), ((0,),))
ALLOWED = ((0, 2), (0, 3), (1, 3))
# Askings over BRANDT for 4 questions, with how many looks are made; found by trying.
LOOKS = (
    (6, ((0, 3), (0, 4), (0, 5), (1, 5), (2, 6), (3, 6), (4, 5), (5, 6)), (2, 3), 2000),
    (5, ((0, 2), (0, 3), (0, 4), (1, 2), (1, 4), (2, 5), (3, 5), (4, 5)), (), 2000),
    (5, ((0, 2), (0, 3), (1, 2), (1, 4), (2, 3), (2, 4), (3, 5), (4, 5)), (), 2001),
    (5, ((0, 1), (0, 3), (0, 5), (1, 4), (2, 3), (3, 4), (3, 5), (4, 5)), (0, 2), 2001),
)


class Model:
    """An asking by the words of the document, with its looks."""

    def __init__(self, table, n, allowed, goal):
        self.table, self.allowed, self.goal, self.looked = table, allowed, goal, 0
        self.logs = list(itertools.product(table[0], repeat=n))

    def value(self, log, span):
        return slow_value(self.table, log[span[0]:span[1]])

    def thing(self, log):
        return log if self.goal == () else self.value(log, self.goal)

    def apart(self, logs):
        return len({self.thing(log) for log in logs}) > 1

    def look(self, logs, number):
        self.looked += 1
        if self.looked > 2000:
            raise TooLarge
        if not self.apart(logs):
            return True
        if number == 0:
            return False
        for span in self.allowed:
            values = sorted({self.value(log, span) for log in logs})
            if len(values) > 1 and all(self.look([log for log in logs if self.value(log, span) == value], number - 1)
                                       for value in values):
                return True
        return False

    def found(self, number):
        """Whether a tree is found, or that it is too much."""
        self.looked = 0
        try:
            return self.look(self.logs, number)
        except TooLarge:
            return TooLarge

    def at_once(self, spans):
        """Whether some allowed slices tell the goal at once, by all pairs of logs."""
        rows = {}
        for log in self.logs:
            rows.setdefault(tuple(self.value(log, span) for span in spans), set()).add(self.thing(log))
        return all(len(things) == 1 for things in rows.values())

    def right_tree(self, tree, number, logs=None):
        """Whether this is a right question tree."""
        logs = self.logs if logs is None else logs
        if tree[0] == "told" and len(tree) == 2:
            return all(self.thing(log) == tree[1] for log in logs)
        if tree[0] != "ask" or len(tree) != 3 or tree[1] not in self.allowed or number == 0:
            return False
        values = sorted({self.value(log, tree[1]) for log in logs})
        return [value for value, _ in tree[2]] == values and all(
            self.right_tree(part, number - 1, [log for log in logs if self.value(log, tree[1]) == value])
            for value, part in tree[2])

    def right_paper(self, paper, number, logs=None):
        """Whether this is a right answer paper."""
        logs = self.logs if logs is None else logs
        if paper[0] == "two" and len(paper) == 3:
            one, other = paper[1:]
            if one not in logs or other not in logs or not self.apart([one, other]):
                return False
            return number == 0 or all(self.value(one, span) == self.value(other, span) for span in self.allowed)
        if paper[0] != "answers" or len(paper) != 2 or number == 0 or not self.allowed:
            return False
        return len(paper[1]) == len(self.allowed) and all(
            self.right_paper(part, number - 1, [log for log in logs if self.value(log, span) == value])
            for span, (value, part) in zip(self.allowed, paper[1]))


def random_asking(rng, table):
    """A table with a number of letters, allowed slices and a goal."""
    n = rng.randint(1, {1: 7, 2: 6, 3: 4, 4: 3}[len(table[0])])
    spans = list(itertools.combinations(range(n + 1), 2))
    allowed = tuple(sorted(rng.sample(spans, min(len(spans), rng.randint(0, 8)))))
    return table, n, allowed, rng.choice(((), rng.choice(spans), rng.choice(spans)))


def told(ask, *parts):
    """What a function returns, or the class of the error that it raises."""
    try:
        return ask(*parts)
    except (Missing, TooLarge) as error:
        return type(error)


class AskingTest(unittest.TestCase):
    def test_constants(self):
        self.assertEqual((questions.MAX_ALLOWED, questions.MAX_LOGS, questions.MAX_LOOKS, questions.MAX_QUESTIONS),
                         (8, 81, 2000, 4))

    def test_right(self):
        eight = tuple((0, last) for last in range(1, 9))
        for table, n, allowed, goal in ((TURN, 1, (), ()), (TURN, 6, eight[:6], (0, 6)), (THREE_ROOMS, 4, ((0, 4),), ()),
                                        (FOUR, 3, ((0, 1), (0, 3), (2, 3)), (2, 3)), (TRIVIAL, 40, eight, ()),
                                        (TRIVIAL, 40, ((39, 40),), (0, 40))):
            self.assertIsNone(check_asking(table, n, allowed, goal))

    def asks(self, parts):
        return [lambda: check_asking(*parts), lambda: least_questions(*parts), lambda: question_tree(*parts, 7),
                lambda: answer_paper(*parts, -1), lambda: judge_questions(*parts, 9, ("told", ())),
                lambda: judge_answers(*parts, 9, ("two", (), ())), lambda: fixed_questions(*parts)]

    def test_not_allowed(self):
        nine = tuple((0, last) for last in range(1, 10))
        for parts in ((TURN, 0, (), ()), (TURN, -1, (), ()), (TURN, 41, (), ()), (TRIVIAL, 41, (), ()),
                      (TRIVIAL, 40, nine, ()), (TURN, 3, ((0, 4),), ()), (TURN, 3, ((-1, 2),), ()), (TURN, 3, ((2, 1),), ()),
                      (TURN, 3, ((1, 1),), ()), (TURN, 3, ((0, 2), (0, 2)), ()), (TURN, 3, ((0, 2), (0, 1)), ()),
                      (TURN, 3, ((1, 2), (0, 3)), ()), (TURN, 3, (), (0, 4)), (TURN, 3, (), (-1, 1)), (TURN, 3, (), (2, 1)),
                      (TURN, 3, (), (3, 3)), (TURN, 40, ((0, 41),), ()), (TURN, 40, (), (0, 41))):
            for ask in self.asks(parts):
                with self.assertRaises(NotAllowed, msg=parts):
                    ask()

    def test_too_many_logs(self):
        # 81 logs of three letters, 64 of two and of four are not too many.
        for table, n in ((THREE_ROOMS, 5), (TURN, 7), (TURN, 40), (FOUR, 4), (THREE_ROOMS, 40)):
            for ask in self.asks((table, n, ((0, 1),), ())):
                with self.assertRaises(TooLarge, msg=n):
                    ask()

    def test_numbers(self):
        for number in (-1, 5, 100):
            parts = (TURN, 3, ALLOWED, ())
            for ask in (lambda: question_tree(*parts, number), lambda: answer_paper(*parts, number),
                        lambda: judge_questions(*parts, number, ("told", 0)),
                        lambda: judge_answers(*parts, number, ("two", (), ()))):
                with self.assertRaises(NotAllowed):
                    ask()


class TreesTest(unittest.TestCase):
    def test_examples(self):
        self.assertEqual(least_questions(TURN, 3, ALLOWED, ()), 3)
        self.assertEqual(fixed_questions(TURN, 3, ALLOWED, ()), ALLOWED)
        self.assertEqual(least_questions(TURN, 3, ALLOWED, (0, 1)), 2)
        self.assertEqual(question_tree(TURN, 3, ALLOWED, (0, 3), 1)[:2], ("ask", (0, 3)))
        self.assertIsNone(judge_answers(TURN, 3, ALLOWED, (0, 1), 1, answer_paper(TURN, 3, ALLOWED, (0, 1), 1)))
        with self.assertRaises(Missing):
            least_questions(TURN, 2, ((0, 2),), ())

    def test_by_definition(self):
        rng = random.Random(411)
        seen = {}
        for table in [TURN, BRANDT, LEFT_ZERO, RIGHT_ZERO, THREE_ROOMS, TRIVIAL, FOUR] + random_tables(412, 8, 20):
            for _ in range(5):
                parts = random_asking(rng, table)
                model = Model(*parts)
                for number in range(5):
                    found = model.found(number)
                    tree, paper = told(question_tree, *parts, number), told(answer_paper, *parts, number)
                    if found is TooLarge:
                        self.assertEqual((tree, paper), (TooLarge, TooLarge))
                        continue
                    # Just one of both is there.
                    self.assertEqual((tree is Missing, paper is Missing), (not found, found))
                    if found:
                        self.assertTrue(model.right_tree(tree, number))
                        self.assertIsNone(judge_questions(*parts, number, tree))
                    else:
                        self.assertTrue(model.right_paper(paper, number))
                        self.assertIsNone(judge_answers(*parts, number, paper))
                    seen[(number, found)] = True
                self.assertEqual(told(least_questions, *parts), self.slow_least(model))
        self.assertEqual(len(seen), 10)

    def slow_least(self, model):
        if not model.at_once(model.allowed):
            return Missing
        for number in range(9):
            found = model.found(number)
            if found is not False:
                return number if found is True else TooLarge
        return None

    def test_more_than_four(self):
        # The least number may be greater than those that the other functions are called with.
        allowed = tuple((place, place + 1) for place in range(6))
        self.assertEqual(Model(TURN, 6, allowed, ()).found(4), False)
        self.assertEqual(told(least_questions, TURN, 6, allowed, ()), self.slow_least(Model(TURN, 6, allowed, ())))
        five = tuple((place, place + 1) for place in range(5))
        self.assertEqual(least_questions(TURN, 5, five, ()), 5)
        self.assertIsInstance(answer_paper(TURN, 5, five, (), 4), tuple)

    def test_number_of_looks(self):
        for n, allowed, goal, looked in LOOKS:
            model = Model(BRANDT, n, allowed, goal)
            found = model.found(4)
            self.assertEqual((found, model.looked), (False if looked == 2000 else TooLarge, looked))
            parts = (BRANDT, n, allowed, goal)
            if looked > 2000:
                self.assertEqual((told(question_tree, *parts, 4), told(answer_paper, *parts, 4)), (TooLarge, TooLarge))
                self.assertEqual(told(least_questions, *parts), self.slow_least(model))
            else:
                self.assertEqual(told(question_tree, *parts, 4), Missing)
                paper = answer_paper(*parts, 4)
                self.assertTrue(model.right_paper(paper, 4))
                self.assertIsNone(judge_answers(*parts, 4, paper))

    def test_missing_is_told_first(self):
        # Where no number is enough, it does not matter that it would be too much for some.
        parts = (BRANDT, 6, ((0, 1), (0, 4), (1, 4), (2, 3), (2, 4), (2, 6), (3, 5), (4, 6)), ())
        model = Model(*parts)
        self.assertEqual([model.at_once(parts[2]), model.found(4), model.found(5)], [False, False, TooLarge])
        self.assertEqual(told(least_questions, *parts), Missing)
        self.assertEqual(told(fixed_questions, *parts), Missing)

    def test_nothing_to_ask(self):
        self.assertEqual(least_questions(TRIVIAL, 40, (), ()), 0)
        self.assertEqual(question_tree(TRIVIAL, 2, (), (), 0), ("told", ("a", "a")))
        self.assertEqual(question_tree(FOUR, 3, (), (0, 2), 3), ("told", 0))
        for number in (0, 1, 4):
            self.assertEqual(answer_paper(TURN, 1, (), (), number), ("two", ("a",), ("b",)))
            self.assertEqual(told(question_tree, TURN, 1, (), (), number), Missing)


class FixedTest(unittest.TestCase):
    def test_by_definition(self):
        rng = random.Random(413)
        seen = {}
        for table in [TURN, BRANDT, LEFT_ZERO, RIGHT_ZERO, THREE_ROOMS, TRIVIAL, FOUR] + random_tables(414, 8, 20):
            for _ in range(5):
                parts = random_asking(rng, table)
                model = Model(*parts)
                wanted = Missing
                for many in range(len(parts[2]), -1, -1):
                    fair = [spans for spans in itertools.combinations(parts[2], many) if model.at_once(spans)]
                    wanted = fair[0] if fair else wanted
                self.assertEqual(told(fixed_questions, *parts), wanted)
                seen[wanted if wanted is Missing else len(wanted)] = True
                if wanted is not Missing and told(least_questions, *parts) is not TooLarge:
                    self.assertLessEqual(least_questions(*parts), len(wanted))
        self.assertGreater(len(seen), 4)


class JudgeTest(unittest.TestCase):
    def judged(self, judge, right, parts, number, thing):
        if right:
            self.assertIsNone(judge(*parts, number, thing))
        else:
            with self.assertRaises(BadPaper, msg=(parts, number, thing)):
                judge(*parts, number, thing)
        return right

    def askings(self, seed, word):
        """Askings with numbers for which there is a tree, or a paper."""
        rng = random.Random(seed)
        for table in [TURN, BRANDT, LEFT_ZERO, RIGHT_ZERO, THREE_ROOMS] * 3:
            parts = random_asking(rng, table)
            for number in (1, 2, 3):
                thing = told(question_tree if word == "tree" else answer_paper, *parts, number)
                if isinstance(thing, tuple):
                    yield rng, parts, number, thing

    def test_trees(self):
        results = [0, 0]
        for rng, parts, number, tree in self.askings(415, "tree"):
            model = Model(*parts)
            for _ in range(30):
                wrong = self.changed_tree(rng, parts, tree)
                results[self.judged(judge_questions, model.right_tree(wrong, number), parts, number, wrong)] += 1
            for other in range(5):
                self.judged(judge_questions, model.right_tree(tree, other), parts, other, tree)
        self.assertGreater(results[0], 200)
        self.assertGreater(results[1], 5)

    def changed_tree(self, rng, parts, tree):
        """A question tree with some part changed."""
        if tree[0] == "told":
            thing = tree[1]
            other = thing + 1 if isinstance(thing, int) else thing[::-1]
            return rng.choice((("told", other), ("tell", thing), ("told", ()), ("told", -1), ("ask", thing),
                               ("ask", parts[2][0] if parts[2] else (0, 1), ()), ("told", thing, ())))
        word, span, branches = tree
        if branches and rng.random() < 0.5:
            at = rng.randrange(len(branches))
            value, inner = branches[at]
            inner = self.changed_tree(rng, parts, inner)
            return (word, span, branches[:at] + ((value, inner),) + branches[at + 1:])
        sort = rng.randrange(7)
        if sort == 0:
            return (word, span, branches[1:])
        if sort == 1:
            return (word, span, branches + branches[-1:])
        if sort == 2:
            return (word, span, branches[::-1])
        if sort == 3:
            return (word, (span[0], span[1] + rng.choice((1, -1))), branches)
        if sort == 4:
            return (rng.choice(("asks", "told", "")), span, branches)
        if sort == 5:
            return (word, span, tuple((value + 1, inner) for value, inner in branches))
        # A question whose answer is known costs one, but is no fault.
        return (word, span, tuple((value, (word, span, ((value, inner),))) for value, inner in branches))

    def test_papers(self):
        results = [0, 0]
        for rng, parts, number, paper in self.askings(416, "paper"):
            model = Model(*parts)
            for _ in range(30):
                wrong = self.changed_paper(rng, parts, paper)
                results[self.judged(judge_answers, model.right_paper(wrong, number), parts, number, wrong)] += 1
            for other in range(5):
                self.judged(judge_answers, model.right_paper(paper, other), parts, other, paper)
        self.assertGreater(results[0], 200)
        self.assertGreater(results[1], 5)

    def changed_paper(self, rng, parts, paper):
        """An answer paper with some part changed."""
        if paper[0] == "two":
            _, one, other = paper
            return rng.choice((("two", other, one), ("two", one, one), ("two", other, other), ("two", one, one[1:]),
                               ("two", one, ()), ("both", one, other), ("answers", ()), ("two", one[::-1], other[::-1]),
                               ("two", ("z",) * len(one), other), ("answers", one, other)))
        word, rows = paper
        if rng.random() < 0.6:
            at = rng.randrange(len(rows))
            value, inner = rows[at]
            if rng.random() < 0.7:
                inner = self.changed_paper(rng, parts, inner)
            else:
                value += rng.choice((1, -1, 50))
            return (word, rows[:at] + ((value, inner),) + rows[at + 1:])
        two = ("two", (parts[0][0][0],) * parts[1], (parts[0][0][-1],) * parts[1])
        return rng.choice(((word, rows[1:]), (word, rows + rows[:1]), (word, rows[::-1]), ("answer", rows), ("two", rows),
                           (word, ()), two))

    def test_two(self):
        # Two logs that have the same values in all allowed slices may be told with questions left.
        parts = (TURN, 2, ((0, 2),), ())
        paper = ("two", ("a", "b"), ("b", "a"))
        for number in range(5):
            self.judged(judge_answers, True, parts, number, paper)
        self.judged(judge_answers, True, parts, 0, ("two", ("a", "a"), ("b", "a")))
        self.judged(judge_answers, False, parts, 1, ("two", ("a", "a"), ("b", "a")))
        self.judged(judge_answers, True, parts, 1, ("answers", ((1, ("two", ("a", "a"), ("b", "b"))),)))
        self.judged(judge_answers, False, parts, 1, ("answers", ((0, ("two", ("a", "a"), ("b", "b"))),)))
        self.judged(judge_answers, False, parts, 1, ("answers", ((7, ("two", ("a", "a"), ("b", "b"))),)))
        self.judged(judge_answers, False, parts, 0, ("answers", ((1, ("two", ("a", "a"), ("b", "b"))),)))
        # Without an allowed slice there are no answers.
        self.judged(judge_answers, False, (TURN, 2, (), ()), 1, ("answers", ()))
        self.judged(judge_answers, True, (TURN, 2, (), ()), 1, paper)

    def test_told(self):
        parts = (TURN, 2, ((0, 1), (0, 2)), ())
        tree = question_tree(*parts, 2)
        self.judged(judge_questions, True, parts, 2, tree)
        self.judged(judge_questions, True, parts, 4, tree)
        self.judged(judge_questions, False, parts, 1, tree)
        self.judged(judge_questions, False, parts, 2, ("told", ("a", "a")))
        self.judged(judge_questions, False, parts, 0, ("told", 0))
        self.judged(judge_questions, True, (TRIVIAL, 2, (), ()), 0, ("told", ("a", "a")))
        self.judged(judge_questions, False, (TRIVIAL, 2, (), ()), 0, ("told", ("a",)))
        self.judged(judge_questions, True, (TRIVIAL, 2, (), (0, 1)), 0, ("told", 0))


if __name__ == "__main__":
    unittest.main()
