"""Tests of scarp.askers: askers and answerers, who play by [12.4] and [12.5]."""

import random
import unittest

from scarp.askers import Answerer, Asker
from scarp.errors import BadPaper, Missing, NotAllowed, TooLarge
from scarp.questions import answer_paper, question_tree
from tests.samples import BRANDT, LEFT_ZERO, RIGHT_ZERO, THREE_ROOMS, TRIVIAL, TURN, random_tables
from tests.test_questions import ALLOWED, FOUR, Model, random_asking, told


class AskerTest(unittest.TestCase):
    def test_examples(self):
        asker = Asker(TURN, 3, ALLOWED, (0, 3), 1, question_tree(TURN, 3, ALLOWED, (0, 3), 1))
        self.assertEqual((asker.question(), asker.answer(1), asker.told(), asker.asked()), ((0, 3), None, 1, (((0, 3), 1),)))

    def test_each_log_is_told(self):
        rng = random.Random(421)
        asked = 0
        for table in [TURN, BRANDT, LEFT_ZERO, RIGHT_ZERO, THREE_ROOMS, TRIVIAL, FOUR] + random_tables(422, 5, 20):
            for _ in range(4):
                parts = random_asking(rng, table)
                model = Model(*parts)
                for number in range(5):
                    tree = told(question_tree, *parts, number)
                    if isinstance(tree, tuple):
                        asker = Asker(*parts, number, tree)
                        for log in model.logs:
                            asked += self.follow(asker, model, log, number)
                        break
        self.assertGreater(asked, 500)

    def follow(self, asker, model, log, number):
        """Ask for one log, to the end and back; the number of questions."""
        pairs, left = [], model.logs
        while True:
            self.assertEqual(asker.asked(), tuple(pairs))
            try:
                span = asker.question()
            except Missing:
                break
            with self.assertRaises(Missing):
                asker.told()
            for value in (-1, len(model.table[2])) + tuple(range(len(model.table[2]))):
                if value not in [model.value(other, span) for other in left]:
                    with self.assertRaises(NotAllowed):
                        asker.answer(value)
            value = model.value(log, span)
            self.assertIsNone(asker.answer(value))
            pairs.append((span, value))
            left = [other for other in left if model.value(other, span) == value]
        self.assertEqual(asker.told(), model.thing(log))
        self.assertLessEqual(len(pairs), number)
        for value in (0, -1, 99):
            with self.assertRaises(Missing):
                asker.answer(value)
        many = len(pairs)
        while pairs:
            self.assertEqual(asker.asked(), tuple(pairs))
            self.assertIsNone(asker.back())
            self.assertEqual(asker.question(), pairs.pop()[0])
        with self.assertRaises(Missing):
            asker.back()
        return many

    def test_nothing_to_ask(self):
        asker = Asker(TRIVIAL, 40, (), (), 0, ("told", ("a",) * 40))
        self.assertEqual((asker.told(), asker.asked()), (("a",) * 40, ()))
        for ask in (asker.question, asker.back, lambda: asker.answer(0)):
            with self.assertRaises(Missing):
                ask()

    def test_wrong(self):
        tree = question_tree(TURN, 3, ALLOWED, (0, 3), 1)
        for parts, error in (((TURN, 3, ALLOWED, (0, 3), 0, tree), BadPaper), ((TURN, 3, ALLOWED, (0, 1), 1, tree), BadPaper),
                             ((TURN, 3, ALLOWED, (0, 3), 1, ("told", 0)), BadPaper),
                             ((TURN, 3, ALLOWED, (0, 3), 5, tree), NotAllowed), ((TURN, 3, ALLOWED, (0, 3), -1, tree), NotAllowed),
                             ((TURN, 0, ALLOWED, (0, 3), 1, tree), NotAllowed), ((TURN, 2, ALLOWED, (0, 3), 1, tree), NotAllowed),
                             ((TURN, 3, ALLOWED, (0, 4), 1, tree), NotAllowed), ((TURN, 7, ALLOWED, (0, 3), 1, tree), TooLarge)):
            with self.assertRaises(error, msg=parts):
                Asker(*parts)


class AnswererTest(unittest.TestCase):
    def test_examples(self):
        answerer = Answerer(TURN, 3, ALLOWED, (0, 1), 0, ("two", ("a", "a", "a"), ("b", "a", "a")))
        self.assertEqual(answerer.two(), (("a", "a", "a"), ("b", "a", "a")))

    def test_two_logs_are_left(self):
        rng = random.Random(423)
        asked = 0
        for table in [TURN, BRANDT, LEFT_ZERO, RIGHT_ZERO, THREE_ROOMS, FOUR] + random_tables(424, 5, 20):
            for _ in range(4):
                parts = random_asking(rng, table)
                model = Model(*parts)
                for number in range(5):
                    paper = told(answer_paper, *parts, number)
                    if isinstance(paper, tuple):
                        for _ in range(10):
                            asked += self.follow(rng, Answerer(*parts, number, paper), model, number)
        self.assertGreater(asked, 300)

    def follow(self, rng, answerer, model, number):
        """Ask at random, to the end and back; the number of questions."""
        pairs, left = [], model.logs
        met = None
        while True:
            self.assertEqual(answerer.asked(), tuple(pairs))
            try:
                pair = answerer.two()
                self.assertTrue(pair[0] in left and pair[1] in left and model.apart(pair))
                self.assertIn(met, (None, pair))
                met = pair
            except Missing:
                self.assertIsNone(met)
            if len(pairs) == number or not model.allowed:
                break
            span = rng.choice(model.allowed)
            value = answerer.answer(span)
            pairs.append((span, value))
            left = [log for log in left if model.value(log, span) == value]
            if met is not None:
                self.assertEqual(value, model.value(met[0], span))
        self.assertIsNotNone(met)
        for span in ((-1, 0), (0, 0), (0, 99), (2, 1)):
            with self.assertRaises(NotAllowed):
                answerer.answer(span)
        if model.allowed:
            with self.assertRaises(Missing):
                answerer.answer(model.allowed[0])
        many = len(pairs)
        while pairs:
            self.assertIsNone(answerer.back())
            span, value = pairs.pop()
            self.assertEqual(answerer.asked(), tuple(pairs))
            self.assertEqual(answerer.answer(span), value)
            answerer.back()
        with self.assertRaises(Missing):
            answerer.back()
        return many

    def test_behind_two(self):
        # With questions left, the values of the first log are answered.
        parts = (TURN, 2, ((0, 2),), ())
        answerer = Answerer(*parts, 3, ("two", ("a", "b"), ("b", "a")))
        self.assertEqual([answerer.answer((0, 2)) for _ in range(3)], [0, 0, 0])
        self.assertEqual(answerer.two(), (("a", "b"), ("b", "a")))
        with self.assertRaises(Missing):
            answerer.answer((0, 2))
        with self.assertRaises(NotAllowed):
            answerer.answer((0, 1))
        answerer.back()
        self.assertEqual((answerer.asked(), answerer.answer((0, 2))), ((((0, 2), 0),) * 2, 0))
        first = Answerer(*parts, 1, ("answers", ((1, ("two", ("b", "b"), ("a", "a"))),)))
        with self.assertRaises(Missing):
            first.two()
        self.assertEqual((first.answer((0, 2)), first.two()), (1, (("b", "b"), ("a", "a"))))
        first.back()
        with self.assertRaises(Missing):
            first.two()

    def test_wrong(self):
        paper = ("two", ("a", "a", "a"), ("b", "a", "a"))
        for parts, error in (((TURN, 3, ALLOWED, (0, 1), 1, paper), BadPaper), ((TURN, 3, ALLOWED, (1, 2), 0, paper), BadPaper),
                             ((TURN, 3, ALLOWED, (0, 1), 0, ("answers", ())), BadPaper),
                             ((TURN, 3, ALLOWED, (0, 1), 5, paper), NotAllowed), ((TURN, 0, (), (), 0, paper), NotAllowed),
                             ((TURN, 3, ALLOWED, (1, 1), 0, paper), NotAllowed), ((TURN, 9, (), (), 0, paper), TooLarge)):
            with self.assertRaises(error, msg=parts):
                Answerer(*parts)


if __name__ == "__main__":
    unittest.main()
