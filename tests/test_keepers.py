"""Tests of scarp.keepers: [11.5]."""

import random
import unittest

from scarp.errors import BadPaper, NotAllowed
from scarp.keepers import Keeper
from scarp.keeping import solve_keeping
from tests.samples import BRANDT, LEFT_ZERO, THREE_ROOMS, TURN, random_tables, slow_value
from tests.test_keeping import ANY_WAY, HABITS, TURNS, slow_move

TABLE = (("a", "b"), (0, 1), ((1, 0), (0, 1)))
GAMES = ((ANY_WAY, 3, 1, 0), (ANY_WAY, 4, 2, 0), (ANY_WAY, 5, 1, 1), (ANY_WAY, 5, 2, 0), (TURNS, 4, 1, 0), (ANY_WAY, 4, 0, 3),
         (((1, 0), (-1, 0)), 3, 2, 1), (((0, -1),), 5, 1, 0), (HABITS[-1], 5, 3, 0), (ANY_WAY, 1, 0, 0))


def fewest(many, spans):
    """The least number of letters and stored slices, one behind the other, that are all of the window."""
    counts = [0]
    for place in range(1, many + 1):
        ahead = [counts[place - 1]] + [counts[x] for x, y in spans if y == place]
        counts.append(1 + min(ahead))
    return counts[many]


class KeeperTest(unittest.TestCase):
    def test_examples(self):
        paper = solve_keeping(ANY_WAY, 3, 1, 0)[1]
        keeper = Keeper(TABLE, ANY_WAY, 3, 1, 0, paper)
        for letter in ("a", "a", "b"):
            self.assertIsNone(keeper.push(letter))
        self.assertEqual((keeper.value(), keeper.made(), keeper.letters()), (1, 2, ("a", "a", "b")))

    def follow(self, rng, table, game, paper, turns):
        """A keeper along moves, whose positions, letters, values and products are told by the paper."""
        habit, wide, makes, asks = game
        keeper = Keeper(table, *game, paper)
        positions = [position for position, _ in paper]
        answers = dict(paper)
        position, log, made = (0, 0, ()), (), 0
        for _ in range(turns):
            self.assertEqual((keeper.state(), keeper.letters(), keeper.made()), (position, log, made))
            self.assertEqual(keeper.value(), slow_value(table, log))
            pieces = fewest(position[1], position[2])
            self.assertLessEqual(pieces, asks + 1)
            made += max(0, pieces - 1)
            self.assertEqual(keeper.made(), made)
            move = rng.choice(("in", "out"))
            behind = slow_move(habit, wide, position, move)
            letter = rng.choice(table[0])
            if behind is None:
                with self.assertRaises(NotAllowed):
                    keeper.push(letter) if move == "in" else keeper.pop()
                continue
            self.assertIsNone(keeper.push(letter) if move == "in" else keeper.pop())
            log = log + (letter,) if move == "in" else log[1:]
            done = answers[position][0 if move == "in" else 1]
            self.assertLessEqual(len(done), makes)
            made += len(done)
            stored = behind[2] | set(done)
            position = [other for other in positions if other[:2] == behind[:2] and set(other[2]) <= stored][0]

    def test_by_definition(self):
        rng = random.Random(371)
        for game in GAMES:
            word, paper = solve_keeping(*game)
            self.assertEqual(word, "kept")
            for table in [TABLE, TURN, BRANDT, LEFT_ZERO, THREE_ROOMS] + random_tables(372, 3, 20):
                self.follow(rng, table, game, paper, 60)

    def test_order_of_the_paper(self):
        # The first position that fits is gone to, whichever stands behind it; all other slices are forgotten.
        rng = random.Random(373)
        full = (((0, 0, ()), ((), ())), ((0, 1, ()), (((0, 2),), ())), ((0, 2, ()), (((0, 2), (0, 3)), ())),
                ((0, 2, ((0, 2),)), (((0, 3),), ())), ((0, 3, ((0, 3),)), ((), ())), ((0, 3, ((0, 2), (0, 3))), ((), ())))
        game = (ANY_WAY, 3, 2, 1)
        for paper in (full, full[::-1]):
            self.follow(rng, BRANDT, game, paper, 200)
        for paper, wanted in ((full, ()), (full[::-1], ((0, 2),))):
            keeper = Keeper(BRANDT, *game, paper)
            keeper.push("a")
            keeper.push("b")
            self.assertEqual(keeper.state(), (0, 2, wanted))
            self.assertEqual((keeper.value(), keeper.made()), (BRANDT[2][0][1], 1 if wanted else 2))

    def test_made_again(self):
        # What is stored already and made again is a product all the same.
        paper = (((0, 0, ()), ((), ())), ((0, 1, ()), (((0, 2), (0, 2)), ())), ((0, 2, ((0, 2),)), ((), ())))
        keeper = Keeper(TURN, ANY_WAY, 2, 2, 0, paper)
        keeper.push("a")
        keeper.push("a")
        self.assertEqual((keeper.made(), keeper.value(), keeper.made()), (2, 1, 2))

    def test_impossible_moves(self):
        keeper = Keeper(TABLE, ANY_WAY, 3, 1, 0, solve_keeping(ANY_WAY, 3, 1, 0)[1])
        self.assertEqual((keeper.value(), keeper.letters(), keeper.state(), keeper.made()), (-1, (), (0, 0, ()), 0))
        with self.assertRaises(NotAllowed):
            keeper.pop()
        for letter in ("c", "", "ab"):
            with self.assertRaises(NotAllowed):
                keeper.push(letter)
        for letter in "aba":
            keeper.push(letter)
        told = (keeper.state(), keeper.letters(), keeper.made())
        with self.assertRaises(NotAllowed):
            keeper.push("a")
        self.assertEqual((keeper.state(), keeper.letters(), keeper.made()), told)
        for letter in "aba":
            keeper.pop()
        self.assertEqual((keeper.letters(), keeper.value()), ((), -1))
        with self.assertRaises(NotAllowed):
            keeper.pop()

    def test_habits_that_allow_nothing(self):
        keeper = Keeper(TABLE, ((-1, -1),), 5, 0, 0, (((0, 0, ()), ((), ())),))
        with self.assertRaises(NotAllowed):
            keeper.push("a")
        with self.assertRaises(NotAllowed):
            keeper.pop()

    def test_wrong_papers(self):
        paper = solve_keeping(ANY_WAY, 3, 1, 0)[1]
        for wrong in ((), paper[1:], paper + paper[:1], solve_keeping(ANY_WAY, 4, 2, 0)[1]):
            with self.assertRaises(BadPaper):
                Keeper(TABLE, ANY_WAY, 3, 1, 0, wrong)
        for at, (position, answers) in enumerate(paper):
            for others in ((), answers[:1], answers[1:], answers + ((),)):
                with self.assertRaises(BadPaper):
                    Keeper(TABLE, ANY_WAY, 3, 1, 0, paper[:at] + ((position, others),) + paper[at + 1:])
        for habit, wide, makes, asks in (((), 3, 1, 0), (((0, 1),), 3, 1, 0), (ANY_WAY, 0, 1, 0), (ANY_WAY, 6, 1, 0),
                                         (ANY_WAY, 3, 4, 0), (ANY_WAY, 3, 1, 4), (ANY_WAY, 3, -1, 0)):
            with self.assertRaises(NotAllowed):
                Keeper(TABLE, habit, wide, makes, asks, paper)


if __name__ == "__main__":
    unittest.main()
