"""Tests of scarp.keeping: [11.2], [11.3] and [11.4]."""

import itertools
import random
import unittest

from scarp import keeping
from scarp.errors import BadPaper, NotAllowed
from scarp.keeping import check_habit, judge_kept, judge_lost, least_makes, solve_keeping

ANY_WAY = ((0, 0),)
# Letters come until two of them go again, one after the other.
TURNS = ((1, -1), (2, -1), (-1, 3), (-1, 0))
HABITS = (ANY_WAY, ((0, -1),), ((-1, 0),), ((-1, -1),), ((1, 0), (-1, 0)), TURNS, ((1, -1), (1, 0)),
          ((1, 0), (2, 0), (0, 1), (3, 3)))


def slow_move(habit, wide, position, move):
    """The state, the letters and the slices behind a move, None if it is not possible."""
    state, many, spans = position
    if move == "in" and habit[state][0] != -1 and many < wide:
        return habit[state][0], many + 1, frozenset(spans)
    if move == "out" and habit[state][1] != -1 and many >= 1:
        return habit[state][1], many - 1, frozenset((x - 1, y - 1) for x, y in spans if x >= 1)
    return None


def slow_can_make(many, stored, span):
    """Whether a product of two pieces next to each other is this slice."""
    x, y = span
    pieces = list(stored) + [(place, place + 1) for place in range(many)]
    return any((x, z) in pieces and (z, y) in pieces for z in range(x + 1, y))


def slow_results(many, stored, makes):
    """All sets that can be stored behind up to so many products."""
    found = {stored}
    for _ in range(makes):
        found |= {old | {(x, y)} for old in found for x in range(many) for y in range(x + 2, many + 1)
                  if slow_can_make(many, old, (x, y))}
    return found


def slow_told(many, stored, asks):
    """Whether at most so many pieces, one behind the other, are all of the window."""
    places = {0}
    for _ in range(asks + 1):
        if many in places:
            return True
        places = {y for x in places for y in range(x + 1, many + 1) if y == x + 1 or (x, y) in stored}
    return many in places


def slow_word(habit, wide, makes, asks):
    """Who wins, by striking out positions from which the log can go on to beat the keeper."""
    positions = {(0, 0, frozenset())}
    results = {}
    waiting = list(positions)
    while waiting:
        position = waiting.pop()
        results[position] = []
        for move in ("in", "out"):
            behind = slow_move(habit, wide, position, move)
            if behind is not None:
                state, many, stored = behind
                row = [(state, many, more) for more in slow_results(many, stored, makes) if slow_told(many, more, asks)]
                results[position].append(row)
                for other in row:
                    if other not in positions:
                        positions.add(other)
                        waiting.append(other)
    while True:
        left = {position for position in positions
                if all(any(other in positions for other in row) for row in results[position])}
        if left == positions:
            return "kept" if (0, 0, frozenset()) in positions else "lost"
        positions = left


def slow_is_position(habit, position):
    """Whether a triple is a position, with at most 5 letters."""
    state, many, spans = position
    if not (0 <= state < len(habit) and 0 <= many <= 5 and list(spans) == sorted(set(spans))):
        return False
    return all(0 <= x and x + 2 <= y <= many for x, y in spans)


def slow_kept(habit, wide, makes, asks, paper):
    """Whether this is a right paper of the keeper, by the words of the document."""
    positions = [position for position, _ in paper]
    if (0, 0, ()) not in positions or len(set(positions)) != len(positions):
        return False
    for position, answers in paper:
        if not slow_is_position(habit, position) or not slow_told(position[1], position[2], asks):
            return False
        if len(answers) != 2:
            return False
        for move, made in zip(("in", "out"), answers):
            behind = slow_move(habit, wide, position, move)
            if behind is None:
                if made != ():
                    return False
                continue
            state, many, stored = behind
            for span in made:
                if not (0 <= span[0] and span[1] <= many and slow_can_make(many, stored, span)):
                    return False
                stored = stored | {span}
            if len(made) > makes or not any(other[:2] == (state, many) and set(other[2]) <= stored for other in positions):
                return False
    return True


def slow_lost(habit, wide, makes, asks, paper):
    """Whether this is a right paper of the log, by the words of the document."""
    if (0, 0, ()) not in [position for position, _, _ in paper]:
        return False
    for position, rank, move in paper:
        if not slow_is_position(habit, position) or move not in ("in", "out"):
            return False
        behind = slow_move(habit, wide, position, move)
        if behind is None:
            return False
        state, many, stored = behind
        for more in slow_results(many, stored, makes):
            if slow_told(many, more, asks) and not any(
                    other[:2] == (state, many) and more <= set(other[2]) and less < rank for other, less, _ in paper):
                return False
    return True


class HabitTest(unittest.TestCase):
    def test_constants(self):
        self.assertEqual((keeping.MAX_HABIT, keeping.MAX_WIDE, keeping.MAX_MAKES, keeping.MAX_ASKS), (4, 5, 3, 3))

    def test_habits(self):
        for habit in HABITS + (((3, 2), (1, 0), (-1, -1), (0, 3)),):
            self.assertIsNone(check_habit(habit))
        for habit in ((), ((0, 1),), ((1, 0),), ((-2, 0),), ((0, -2),), ((0, 0),) * 5, ((0, 0), (2, 0)),
                      ((0, 0), (0, 0), (0, 0), (0, 4))):
            with self.assertRaises(NotAllowed, msg=habit):
                check_habit(habit)
        self.assertIsNone(check_habit(((0, 0),) * 4))

    def test_out_of_range(self):
        for habit, wide, makes, asks in (((), 3, 1, 0), (((0, 1),), 3, 1, 0), (ANY_WAY, 0, 1, 0), (ANY_WAY, 6, 1, 0),
                                         (ANY_WAY, -1, 1, 0), (ANY_WAY, 3, -1, 0), (ANY_WAY, 3, 4, 0),
                                         (ANY_WAY, 3, 1, -1), (ANY_WAY, 3, 1, 4)):
            for ask in (lambda: solve_keeping(habit, wide, makes, asks), lambda: judge_kept(habit, wide, makes, asks, ()),
                        lambda: judge_lost(habit, wide, makes, asks, ())):
                with self.assertRaises(NotAllowed, msg=(habit, wide, makes, asks)):
                    ask()
            if 0 <= makes <= 3:
                with self.assertRaises(NotAllowed):
                    least_makes(habit, wide, asks)


class SolveTest(unittest.TestCase):
    def test_examples(self):
        self.assertEqual([least_makes(ANY_WAY, wide, 0) for wide in (1, 2, 3, 4)], [0, 1, 1, 2])
        self.assertEqual([least_makes(ANY_WAY, 4, asks) for asks in (1, 2, 3)], [1, 1, 0])
        word, paper = solve_keeping(ANY_WAY, 3, 1, 0)
        self.assertEqual((word, judge_kept(ANY_WAY, 3, 1, 0, paper)), ("kept", None))

    def holds(self, habit, wide, makes, asks, wanted):
        """The paper that is told is right, and the other side has none that the same paper would be."""
        word, paper = solve_keeping(habit, wide, makes, asks)
        self.assertEqual(word, wanted, (habit, wide, makes, asks))
        if word == "kept":
            self.assertIsNone(judge_kept(habit, wide, makes, asks, paper))
            self.assertTrue(slow_kept(habit, wide, makes, asks, paper))
            other = tuple((position, 9, move) for position, _ in paper for move in ("in", "out"))
            with self.assertRaises(BadPaper):
                judge_lost(habit, wide, makes, asks, other)
        else:
            self.assertIsNone(judge_lost(habit, wide, makes, asks, paper))
            self.assertTrue(slow_lost(habit, wide, makes, asks, paper))
            other = tuple((position, ((), ())) for position, _, _ in paper)
            with self.assertRaises(BadPaper):
                judge_kept(habit, wide, makes, asks, other)

    def test_by_definition(self):
        told = {"kept": 0, "lost": 0}
        for habit in HABITS:
            for wide, makes, asks in itertools.product((1, 2, 3), (0, 1, 2, 3), (0, 1, 2, 3)):
                word = slow_word(habit, wide, makes, asks)
                told[word] += 1
                self.holds(habit, wide, makes, asks, word)
        self.assertGreater(min(told.values()), 10)

    def test_wide_windows(self):
        told = {"kept": 0, "lost": 0}
        for habit in (ANY_WAY, TURNS, ((1, 0), (-1, 0)), ((1, 0), (2, 0), (0, 1), (3, 3))):
            for wide, makes, asks in ((4, 0, 2), (4, 1, 0), (4, 1, 1), (4, 2, 0), (5, 0, 3), (5, 1, 0), (5, 1, 1)):
                word = slow_word(habit, wide, makes, asks)
                told[word] += 1
                self.holds(habit, wide, makes, asks, word)
        for wide, makes, asks in ((5, 2, 0), (5, 3, 3), (5, 3, 0)):
            self.holds(HABITS[-1], wide, makes, asks, "kept")
        self.assertGreater(min(told.values()), 3)

    def test_no_moves(self):
        self.assertEqual(solve_keeping(((-1, -1),), 5, 0, 0), ("kept", (((0, 0, ()), ((), ())),)))
        self.assertEqual(solve_keeping(((-1, 0),), 5, 0, 0), ("kept", (((0, 0, ()), ((), ())),)))

    def test_least(self):
        for habit in HABITS:
            for wide, asks in itertools.product((1, 2, 3, 4), (0, 1, 3)):
                words = [solve_keeping(habit, wide, makes, asks)[0] for makes in range(4)]
                self.assertEqual(words, sorted(words, reverse=True))
                self.assertEqual(least_makes(habit, wide, asks), words.index("kept"))

    def test_nothing_missing(self):
        # Two products a turn are enough if the log may do all that it can do, and so for each habit: with numbers
        # in their ranges, nothing is ever found to be missing.
        for wide in range(1, 6):
            self.assertLessEqual(least_makes(ANY_WAY, wide, 0), 2)
        rng = random.Random(363)
        for _ in range(40):
            habit = tuple((rng.randint(-1, 3), rng.randint(-1, 3)) for _ in range(4))
            words = [solve_keeping(habit, 5, makes, 0)[0] for makes in range(4)]
            self.assertEqual(least_makes(habit, 5, 0), words.index("kept"))

    def test_ranges(self):
        self.assertEqual([solve_keeping(ANY_WAY, 5, 3, 3)[0], solve_keeping(ANY_WAY, 1, 0, 0)[0]], ["kept", "kept"])
        self.assertEqual(solve_keeping(ANY_WAY, 5, 0, 3)[0], "lost")
        self.assertEqual(solve_keeping(ANY_WAY, 4, 0, 3)[0], "kept")


class KeptTest(unittest.TestCase):
    def judged(self, game, paper):
        if slow_kept(*game, paper):
            self.assertIsNone(judge_kept(*game, paper))
            return True
        with self.assertRaises(BadPaper, msg=(game, paper)):
            judge_kept(*game, paper)
        return False

    def test_each_part_wrong(self):
        rng = random.Random(361)
        told = [0, 0]
        for game in ((ANY_WAY, 3, 1, 0), (ANY_WAY, 4, 2, 0), (TURNS, 4, 1, 0), (((1, 0), (-1, 0)), 3, 2, 1),
                     (ANY_WAY, 5, 1, 1), (((0, -1),), 4, 1, 0)):
            word, paper = solve_keeping(*game)
            self.assertEqual(word, "kept")
            for _ in range(80):
                told[self.judged(game, self.changed(rng, paper))] += 1
        self.assertGreater(min(told), 40)

    def changed(self, rng, paper):
        """A paper with one part changed."""
        at = rng.randrange(len(paper))
        (state, many, spans), answers = paper[at]
        sort = rng.randrange(11)
        if sort == 0:
            return paper[:at] + paper[at + 1:]
        if sort == 1:
            return paper + paper[at:at + 1]
        if sort == 2:
            state += rng.choice((1, -1))
        elif sort == 3:
            many += rng.choice((1, -1, 5))
        elif sort == 4:
            spans = rng.choice((spans[1:], spans + ((0, 2),), spans + ((0, 7),), ((-1, 1),) + spans, spans[::-1]))
        elif sort == 5:
            spans = rng.choice((((0, 1),), ((2, 0),), spans + spans[-1:]))
        elif sort in (6, 7):
            which = rng.randrange(2)
            made = answers[which]
            made = rng.choice((made[1:], made + ((0, 2),), ((0, 3),) + made, made[::-1], made + ((0, 9),), made * 2,
                               ((0, 1),), ((0, 0),), ((-1, 1),)))
            answers = (made, answers[1]) if which == 0 else (answers[0], made)
        elif sort == 8:
            answers = answers[::-1]
        elif sort == 9:
            answers = rng.choice((answers[:1], answers[1:], answers + ((),), answers * 2, ()))
        else:
            return paper[::-1]
        return paper[:at] + (((state, many, spans), answers),) + paper[at + 1:]

    def test_small_papers(self):
        game = (ANY_WAY, 2, 1, 0)
        paper = (((0, 0, ()), ((), ())), ((0, 1, ()), (((0, 2),), ())), ((0, 2, ((0, 2),)), ((), ())))
        self.assertTrue(self.judged(game, paper))
        self.assertTrue(self.judged(game, paper[::-1]))
        self.assertFalse(self.judged(game, ()))
        self.assertFalse(self.judged(game, paper[1:]))
        self.assertFalse(self.judged((ANY_WAY, 2, 0, 0), paper))
        self.assertFalse(self.judged((ANY_WAY, 3, 1, 0), paper))
        self.assertTrue(self.judged((ANY_WAY, 2, 1, 3), paper))
        # A state that is not there, and what is no slice, though all else would do.
        for position, made in (((-1, 0, ()), ()), ((1, 0, ()), ()), ((0, 1, ((-1, 1),)), ((0, 2),)),
                               ((0, 1, ((0, 1),)), ((0, 2),)), ((0, 1, ((0, 2),)), ((0, 2),)),
                               ((0, -1, ()), ())):
            self.assertFalse(self.judged(game, paper + ((position, (made, ())),)))
        # The window is not told at a position.
        untold = paper[:2] + (((0, 2, ()), ((), ())),)
        self.assertFalse(self.judged(game, untold))
        self.assertTrue(self.judged((ANY_WAY, 2, 1, 1), untold))
        # More letters than come may be told of, up to five; six may not.
        wide = (((0, 5, ((0, 2), (0, 5), (2, 4))), ((), ((0, 2), (2, 4))))), ((0, 4, ((0, 4),)), ((), ()))
        self.assertFalse(self.judged(game, paper + wide))
        self.assertFalse(self.judged(game, paper + (((0, 6, ((0, 6),)), ((), ())),)))

    def test_answers_that_are_no_pair(self):
        # Each of these differs from a right paper in the number of the answers of one position alone.
        paper = (((0, 0, ()), ((), ())), ((0, 1, ()), (((0, 2),), ())), ((0, 2, ((0, 2),)), ((), ())))
        still = (((0, 0, ()), ((), ())),)
        for game, right in (((ANY_WAY, 2, 1, 0), paper), ((((0, -1),), 2, 1, 0), paper), ((((-1, 0),), 2, 1, 0), still),
                            ((((-1, -1),), 1, 0, 0), still)):
            self.assertTrue(self.judged(game, right))
            for at, (position, answers) in enumerate(right):
                for wrong in ((), answers[:1], answers[1:], answers + ((),), answers + (((0, 2),),), answers * 2):
                    self.assertFalse(self.judged(game, right[:at] + ((position, wrong),) + right[at + 1:]))

    def test_out_of_range_ahead_of_wrong_answers(self):
        for habit, wide, makes, asks in (((), 1, 0, 0), (ANY_WAY, 0, 0, 0), (ANY_WAY, 1, 4, 0), (ANY_WAY, 1, 0, -1)):
            for answers in ((), ((),), ((), (), ())):
                with self.assertRaises(NotAllowed):
                    judge_kept(habit, wide, makes, asks, (((0, 0, ()), answers),))

    def test_what_is_stored_already(self):
        # It may be made again, which is a product all the same.
        paper = (((0, 0, ()), ((), ())), ((0, 1, ()), (((0, 2), (0, 2)), ())), ((0, 2, ((0, 2),)), ((), ())))
        self.assertTrue(self.judged((ANY_WAY, 2, 2, 0), paper))
        self.assertFalse(self.judged((ANY_WAY, 2, 1, 0), paper))


class LostTest(unittest.TestCase):
    def judged(self, game, paper):
        if slow_lost(*game, paper):
            self.assertIsNone(judge_lost(*game, paper))
            return True
        with self.assertRaises(BadPaper, msg=(game, paper)):
            judge_lost(*game, paper)
        return False

    def test_each_part_wrong(self):
        rng = random.Random(362)
        told = [0, 0]
        for game in ((ANY_WAY, 2, 0, 0), (ANY_WAY, 4, 1, 0), (ANY_WAY, 3, 0, 1), (HABITS[-1], 4, 1, 0),
                     (((1, -1), (1, 0)), 3, 0, 0), (ANY_WAY, 5, 1, 0)):
            word, paper = solve_keeping(*game)
            self.assertEqual(word, "lost", game)
            for _ in range(80):
                told[self.judged(game, self.changed(rng, paper))] += 1
        self.assertGreater(min(told), 40)

    def changed(self, rng, paper):
        """A paper with one part changed."""
        at = rng.randrange(len(paper))
        (state, many, spans), rank, move = paper[at]
        sort = rng.randrange(8)
        if sort == 0:
            return paper[:at] + paper[at + 1:]
        if sort == 1:
            return paper + ((paper[at][0], rank + rng.choice((0, 5)), move),)
        if sort == 2:
            state += rng.choice((1, -1))
        elif sort == 3:
            many += rng.choice((1, -1, 5))
        elif sort == 4:
            spans = rng.choice((spans[1:], spans + ((0, 2),), ((-1, 1),) + spans, spans + spans[-1:]))
        elif sort == 5:
            rank += rng.choice((1, -1, -50, 50))
        elif sort == 6:
            move = rng.choice(("in", "out", "ask", ""))
        else:
            return tuple((position, 3 * other - 100, step) for position, other, step in paper)
        return paper[:at] + (((state, many, spans), rank, move),) + paper[at + 1:]

    def test_small_papers(self):
        # With no product, two letters are not told: the log lets two come.
        game = (ANY_WAY, 2, 0, 0)
        paper = (((0, 0, ()), 1, "in"), ((0, 1, ()), 0, "in"))
        self.assertTrue(self.judged(game, paper))
        self.assertTrue(self.judged(game, (((0, 0, ()), -5, "in"), ((0, 1, ()), -6, "in"))))
        self.assertTrue(self.judged(game, paper + (((0, 1, ()), 7, "in"),)))
        self.assertFalse(self.judged(game, paper + (((0, 1, ()), 0, "out"),)))
        self.assertFalse(self.judged(game, ()))
        self.assertFalse(self.judged(game, paper[:1]))
        self.assertFalse(self.judged(game, paper[1:]))
        self.assertFalse(self.judged(game, (((0, 0, ()), 0, "in"), ((0, 1, ()), 0, "in"))))
        self.assertFalse(self.judged(game, (((0, 0, ()), 1, "out"), ((0, 1, ()), 0, "in"))))
        for other in ((ANY_WAY, 1, 0, 0), (ANY_WAY, 2, 1, 0), (ANY_WAY, 2, 0, 1), (((-1, 0),), 2, 0, 0)):
            self.assertFalse(self.judged(other, paper))

    def test_more_slices_are_enough(self):
        # What is stored may be less than a position of the paper has, not more.
        game = (ANY_WAY, 4, 1, 0)
        word, paper = solve_keeping(*game)
        self.assertEqual(word, "lost")
        greatest = [row for row in paper
                    if not any(row[0][:2] == other[0][:2] and set(row[0][2]) < set(other[0][2]) and other[1] <= row[1]
                               for other in paper)]
        self.assertTrue(self.judged(game, paper))
        self.judged(game, tuple(greatest))
        for position, rank, move in paper:
            fewer = tuple(row for row in paper if row[0] != position)
            self.judged(game, fewer)


if __name__ == "__main__":
    unittest.main()
