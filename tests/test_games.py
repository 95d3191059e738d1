"""Tests of scarp.games: [6.1] to [6.5]."""

import itertools
import random
import unittest

from scarp import games
from scarp.errors import BadPaper, Missing, TooLarge
from scarp.games import judge_attack, judge_labeller, least_at_once, least_delay, play_of
from scarp.guesses import sets_of
from scarp.tables import table_of
from tests.samples import (BRANDT, DROP, LEFT_ZERO, RIGHT_ZERO, TRIVIAL, TURN, fixed_tables, power_table, random_tables,
                           slow_starts, slow_step)
from tests.test_papers import slow_is_stand, wrong_stands

KINDS = ("good", "forward")
# A machine for whose table two levels are enough if they are written a letter later, found by trying.
DELAY_HELPS = (("a", "b"), ((0, 0), (2, 0), (2, 2)), (0, 1, 2))


def windows(table, delay):
    """All windows, by the letters of the table."""
    return list(itertools.product(table[0], repeat=delay))


def slow_moves(table, kind, position, letter):
    """For each level to which a step is possible when a letter comes, the position that it leads to."""
    stand, window = position
    row = window + (letter,)
    told = {level: slow_step(table, kind, stand, row[0], level) for level in range(1, len(stand) + 1)}
    return {level: (behind, row[1:]) for level, behind in told.items() if behind is not None}


def slow_met(table, kind, height, delay, most):
    """The positions that can be met, at most one more than so many, with the moves of each by each letter."""
    met = {}
    waiting = [(stand, window) for stand in slow_starts(height) for window in windows(table, delay)]
    while waiting and len(met) <= most:
        position = waiting.pop()
        if position not in met:
            met[position] = {letter: slow_moves(table, kind, position, letter) for letter in table[0]}
            waiting.extend(to for moves in met[position].values() for to in moves.values())
    return met


def slow_word(table, kind, height, delay):
    """Who wins, by taking positions away as long as one has a letter with no good answer; None if it is too large."""
    met = slow_met(table, kind, height, delay, 975)
    if len(met) > 975:
        return None
    fair = dict(met)
    while True:
        bad = [position for position, rows in fair.items()
               if any(all(to not in fair for to in moves.values()) for moves in rows.values())]
        if not bad:
            break
        for position in bad:
            del fair[position]
    begun = all(any((stand, window) in fair for stand in slow_starts(height)) for window in windows(table, delay))
    return "labeller" if begun else "attack"


def slow_labeller(table, kind, height, delay, starts, choices):
    """Whether this is a right paper of a labeller, by the words of the document."""
    paper = dict(choices)
    if len(paper) != len(choices) or [window for window, _ in starts] != windows(table, delay):
        return False
    for (stand, window), levels in choices:
        if not slow_is_stand(table, height, stand) or window not in windows(table, delay):
            return False
        if len(levels) != len(table[0]) or not all(1 <= level <= height for level in levels):
            return False
        for letter, level in zip(table[0], levels):
            if slow_moves(table, kind, (stand, window), letter).get(level) not in paper:
                return False
    return all(1 <= level <= height and (slow_starts(height)[level - 1], window) in paper for window, level in starts)


def slow_attack(table, kind, height, delay, window, rows):
    """Whether this is a right paper of an attack, by the words of the document."""
    if window not in windows(table, delay) or len({row[:2] for row in rows}) != len(rows):
        return False
    for at, (stand, seen, letter) in enumerate(rows):
        if not slow_is_stand(table, height, stand) or seen not in windows(table, delay) or letter not in table[0]:
            return False
        earlier = [row[:2] for row in rows[:at]]
        if any(to not in earlier for to in slow_moves(table, kind, (stand, seen), letter).values()):
            return False
    return all((stand, window) in [row[:2] for row in rows] for stand in slow_starts(height))


class PlayTest(unittest.TestCase):
    def test_constants(self):
        self.assertEqual((games.MAX_DELAY, games.MAX_POSITIONS), (2, 975))

    def test_examples(self):
        self.assertEqual(play_of(DROP, "good", 1, 0), ("attack", (), ((((-1, -1),), (), "a"),)))
        self.assertEqual(least_at_once(DROP, "good", 0), 2)

    def test_shape_of_papers(self):
        self.assertEqual(play_of(TRIVIAL, "good", 1, 0)[:2], ("labeller", (((), 1),)))
        word, starts, choices = play_of(TRIVIAL, "good", 1, 2)
        self.assertEqual((word, starts), ("labeller", ((("a", "a"), 1),)))
        self.assertEqual(dict(choices), {(((-1, -1),), ("a", "a")): (1,), (((-1, 0),), ("a", "a")): (1,)})

    def holds(self, table, kind, height, delay):
        wanted = slow_word(table, kind, height, delay)
        if wanted is None:
            with self.assertRaises(TooLarge):
                play_of(table, kind, height, delay)
            return "large"
        word, first, second = play_of(table, kind, height, delay)
        self.assertEqual(word, wanted)
        self.assertIsInstance(first, tuple)
        self.assertIsInstance(second, tuple)
        if word == "labeller":
            self.assertIsNone(judge_labeller(table, kind, height, delay, first, second))
            self.assertTrue(slow_labeller(table, kind, height, delay, first, second))
        else:
            self.assertIsNone(judge_attack(table, kind, height, delay, first, second))
            self.assertTrue(slow_attack(table, kind, height, delay, first, second))
        return word

    def test_by_definition(self):
        told = {"labeller": 0, "attack": 0, "large": 0}
        for table in [TRIVIAL, DROP, LEFT_ZERO, RIGHT_ZERO, BRANDT, TURN, power_table(0, 4), power_table(3, 2)] + \
                random_tables(151, 12, 12):
            for kind in KINDS:
                for height, delay in ((1, 0), (1, 2), (2, 0), (2, 1), (2, 2), (3, 0), (3, 1)):
                    told[self.holds(table, kind, height, delay)] += 1
        for table in (TRIVIAL, DROP, power_table(0, 3), LEFT_ZERO):
            for kind in KINDS:
                told[self.holds(table, kind, 4, 0)] += 1
        for table in (BRANDT, LEFT_ZERO):
            for kind in KINDS:
                told[self.holds(table, kind, 3, 2)] += 1
                told[self.holds(table, kind, 4, 1)] += 1
        self.assertGreater(min(told.values()), 1, told)

    def test_later_is_easier(self):
        # If there is a labeller, there is one for each greater height and delay, and the height is enough for all logs.
        seen = 0
        for table in [LEFT_ZERO, BRANDT, TURN] + random_tables(152, 25, 12):
            for kind in KINDS:
                words = {}
                for height in (1, 2, 3):
                    for delay in (0, 1, 2):
                        try:
                            words[(height, delay)] = play_of(table, kind, height, delay)[0]
                        except TooLarge:
                            pass
                for (height, delay), word in words.items():
                    if word == "labeller":
                        seen += 1
                        self.assertEqual(words.get((height + 1, delay), word), word)
                        self.assertEqual(words.get((height, delay + 1), word), word)
                        try:
                            self.assertEqual(sets_of(table, kind, height)[0], "enough")
                        except TooLarge:
                            pass
        self.assertGreater(seen, 30)

    def test_positions_at_the_limit(self):
        # Found by trying.
        just = (("a", "b", "c", "d"), ((2, 2, 2, 2), (1, 2, 1, 2), (2, 0, 1, 2)), (1, 2))
        more = (("a", "b", "c", "d"), ((0, 0, 2, 0), (2, 2, 2, 1), (0, 2, 2, 1)), (0,))
        later = (("a", "b"), ((0, 2), (2, 0), (0, 2), (2, 0)), (0, 2))
        self.assertEqual(len(slow_met(table_of(just), "forward", 3, 0, 2000)), 975)
        self.holds(table_of(just), "forward", 3, 0)
        for machine, height, delay in ((more, 3, 0), (later, 4, 2)):
            self.assertEqual(len(slow_met(table_of(machine), "forward", height, delay, 2000)), 976)
            with self.assertRaises(TooLarge):
                play_of(table_of(machine), "forward", height, delay)


class LeastTest(unittest.TestCase):
    def slow_least(self, table, kind, pairs):
        """The index of the first pair of a height and a delay for which there is a labeller, or what is raised."""
        for at, (height, delay) in enumerate(pairs):
            word = slow_word(table, kind, height, delay)
            if word is None:
                return TooLarge
            if word == "labeller":
                return at
        return Missing

    def told(self, ask, table, kind, number):
        try:
            return ask(table, kind, number)
        except (TooLarge, Missing) as error:
            return type(error)

    def test_least(self):
        seen = {}
        for table in [DROP, LEFT_ZERO, RIGHT_ZERO, BRANDT, TURN, power_table(0, 5)] + random_tables(153, 14, 12):
            for kind in KINDS:
                for delay in (0, 1):
                    at = self.slow_least(table, kind, [(height, delay) for height in (1, 2, 3, 4)])
                    wanted = at + 1 if isinstance(at, int) else at
                    self.assertEqual(self.told(least_at_once, table, kind, delay), wanted)
                    seen[wanted] = True
                for height in (1, 2, 3):
                    wanted = self.slow_least(table, kind, [(height, delay) for delay in (0, 1, 2)])
                    self.assertEqual(self.told(least_delay, table, kind, height), wanted)
                    seen[("delay", wanted)] = True
        for wanted in (1, 2, 3, TooLarge, ("delay", 0), ("delay", Missing), ("delay", TooLarge)):
            self.assertIn(wanted, seen)

    def test_missing(self):
        # Four levels are not enough for all logs of a long period, so they are not if they are written at once.
        for kind in KINDS:
            for number in (0, 1, 2):
                self.assertEqual(self.told(least_at_once, power_table(0, 9), kind, number), Missing)
            for number in (1, 2, 3, 4):
                self.assertEqual(self.told(least_delay, power_table(0, 9), kind, number), Missing)

    def test_delay_that_helps(self):
        table = table_of(DELAY_HELPS)
        self.assertEqual([play_of(table, "good", 2, delay)[0] for delay in (0, 1)], ["attack", "labeller"])
        self.assertEqual(least_delay(table, "good", 2), 1)


class JudgeLabellerTest(unittest.TestCase):
    def judged(self, table, kind, height, delay, starts, choices):
        if slow_labeller(table, kind, height, delay, starts, choices):
            self.assertIsNone(judge_labeller(table, kind, height, delay, starts, choices))
            return True
        with self.assertRaises(BadPaper, msg=(starts, choices)):
            judge_labeller(table, kind, height, delay, starts, choices)
        return False

    def test_each_part_wrong(self):
        rng = random.Random(154)
        told = [0, 0]
        for table, kind, height, delay in ((DROP, "good", 2, 0), (LEFT_ZERO, "forward", 1, 1), (TURN, "good", 2, 0),
                                           (RIGHT_ZERO, "good", 3, 0), (DROP, "forward", 2, 2), (TURN, "forward", 2, 1)):
            word, starts, choices = play_of(table, kind, height, delay)
            self.assertEqual(word, "labeller")
            for _ in range(100):
                new_starts, new_choices = list(starts), list(choices)
                at, other = rng.randrange(len(starts)), rng.randrange(len(choices))
                (stand, window), levels = choices[other]
                sort = rng.randrange(11)
                if sort == 0:
                    new_starts[at] = (starts[at][0], rng.choice((0, 1, 2, height + 1, -1)))
                elif sort == 1:
                    new_starts[at] = (rng.choice((("a",), (), ("z",), ("a", "b"), ("a", "a", "a"))), starts[at][1])
                elif sort == 2:
                    new_starts = rng.choice((starts[:-1], starts + starts[-1:], starts[::-1], ()))
                elif sort == 3:
                    level = rng.randrange(len(levels))
                    new = levels[:level] + (rng.choice((0, -1, 1, 2, height + 1)),) + levels[level + 1:]
                    new_choices[other] = ((stand, window), new)
                elif sort == 4:
                    new_choices[other] = ((stand, window), rng.choice((levels[:-1], levels + (1,), ())))
                elif sort == 5:
                    new_choices[other] = ((stand, rng.choice((window[:-1], window + ("a",), ("z",) * delay))), levels)
                elif sort == 6:
                    strange = rng.choice(wrong_stands(table, height, stand, rng.randrange(height)))
                    new_choices[other] = ((strange, window), levels)
                elif sort == 7:
                    del new_choices[other]
                elif sort == 8:
                    new_choices.append(new_choices[other])
                elif sort == 9:
                    new_choices = new_choices[::-1]
                else:
                    strange = rng.choice(wrong_stands(table, height, stand, rng.randrange(height)))
                    new_choices.append(((strange, window), levels))
                told[self.judged(table, kind, height, delay, tuple(new_starts), tuple(new_choices))] += 1
        self.assertGreater(min(told), 40, told)

    def test_no_paper(self):
        self.assertFalse(self.judged(DROP, "good", 2, 0, (), ()))
        self.assertFalse(self.judged(DROP, "good", 2, 0, (((), 1),), ()))
        # A position that cannot be met may stand in the paper, if what it says is right.
        word, starts, choices = play_of(DROP, "good", 2, 0)
        self.assertTrue(self.judged(DROP, "good", 2, 0, starts, choices + (((((1, 1), (1, 1)), ()), (1,)),)))
        self.assertFalse(self.judged(DROP, "good", 2, 0, starts, choices + (((((1, 1), (1, 0)), ()), (1,)),)))
        self.assertFalse(self.judged(DROP, "good", 2, 0, starts, choices + (((((1, 1), (1, 1)), ()), (2,)),)))

    def test_other_heights_and_delays(self):
        _, starts, choices = play_of(LEFT_ZERO, "forward", 1, 1)
        self.assertTrue(self.judged(LEFT_ZERO, "forward", 1, 1, starts, choices))
        for kind, height, delay in (("good", 1, 1), ("forward", 2, 1), ("forward", 1, 0), ("forward", 1, 2)):
            self.assertFalse(self.judged(LEFT_ZERO, kind, height, delay, starts, choices))


class JudgeAttackTest(unittest.TestCase):
    def judged(self, table, kind, height, delay, window, rows):
        if slow_attack(table, kind, height, delay, window, rows):
            self.assertIsNone(judge_attack(table, kind, height, delay, window, rows))
            return True
        with self.assertRaises(BadPaper, msg=(window, rows)):
            judge_attack(table, kind, height, delay, window, rows)
        return False

    def test_each_part_wrong(self):
        rng = random.Random(155)
        told = [0, 0]
        for table, kind, height, delay in ((DROP, "good", 1, 0), (TURN, "good", 1, 1), (power_table(0, 4), "good", 2, 0),
                                           (RIGHT_ZERO, "forward", 1, 2), (power_table(0, 3), "forward", 2, 1)):
            word, window, rows = play_of(table, kind, height, delay)
            self.assertEqual(word, "attack")
            for _ in range(100):
                new = list(rows)
                new_window = window
                at = rng.randrange(len(rows))
                stand, seen, letter = rows[at]
                sort = rng.randrange(9)
                if sort == 0:
                    new_window = rng.choice((window + ("a",), ("z",) * delay, window[:-1], ("a",) * delay))
                elif sort == 1:
                    strange = rng.choice(wrong_stands(table, height, stand, rng.randrange(height)))
                    new[at] = (strange, seen, letter)
                elif sort == 2:
                    new[at] = (stand, rng.choice((seen + ("a",), seen[:-1], ("z",) * delay)), letter)
                elif sort == 3:
                    new[at] = (stand, seen, rng.choice(("a", "b", "z")))
                elif sort == 4:
                    del new[at]
                elif sort == 5:
                    new.insert(rng.randrange(len(rows) + 1), rng.choice(rows))
                elif sort == 6:
                    new = new[::-1]
                elif sort == 7:
                    strange = rng.choice(wrong_stands(table, height, stand, rng.randrange(height)))
                    new.append((strange, seen, letter))
                else:
                    other = rng.randrange(len(rows))
                    new[at], new[other] = new[other], new[at]
                told[self.judged(table, kind, height, delay, new_window, tuple(new))] += 1
        self.assertGreater(min(told), 40, told)

    def test_no_paper(self):
        self.assertFalse(self.judged(DROP, "good", 1, 0, (), ()))
        self.assertFalse(self.judged(DROP, "good", 1, 0, ("a",), ((((-1, -1),), (), "a"),)))
        self.assertFalse(self.judged(DROP, "good", 2, 0, (), ((((-1, -1),), (), "a"),)))

    def test_never_both(self):
        for table in fixed_tables()[:6]:
            for kind in KINDS:
                for height in (1, 2):
                    word, first, second = play_of(table, kind, height, 0)
                    if word == "labeller":
                        stands = tuple((stand, seen, table[0][0]) for (stand, seen), _ in second)
                        self.assertFalse(self.judged(table, kind, height, 0, (), stands))
                    else:
                        choices = tuple(((stand, seen), (1,) * len(table[0])) for stand, seen, _ in second)
                        with self.assertRaises(BadPaper):
                            judge_labeller(table, kind, height, 0, (((), 1),), choices)


if __name__ == "__main__":
    unittest.main()
