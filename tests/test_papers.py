"""Tests of scarp.papers: [5.2] and [5.3]."""

import random
import unittest

from scarp.errors import BadPaper, NotAllowed, TooLarge
from scarp.guesses import sets_of
from scarp.papers import judge_enough, judge_more, read_split
from scarp.shortfalls import shortfall
from scarp.splits import judge_split
from tests.samples import (BRANDT, DROP, LEFT_ZERO, RIGHT_ZERO, TURN, fixed_tables, logs_up_to, power_table, random_log,
                           random_tables, slow_freer, slow_is_split, slow_starts, slow_step)

KINDS = ("good", "forward")


def slow_is_stand(table, height, stand):
    """Whether a tuple is a stand of a height, by the words of the document."""
    products = table[2]
    numbers = range(len(products))
    units = [-1] + [e for e in numbers if products[e][e] == e]
    if len(stand) != height:
        return False
    return all(entry == () or (entry[0] in [-1, *numbers] and entry[1] in units) for entry in stand)


def slow_steps(table, kind, height, stands, letter):
    """All stands to which possible steps lead from some stands."""
    found = {slow_step(table, kind, stand, letter, level) for stand in stands for level in range(1, height + 1)}
    return found - {None}


def slow_enough(table, kind, height, guesses, moves):
    """What the judge of a closed table has to say: an error class, or None."""
    shape = len(guesses) > 0 and len(moves) == len(guesses)
    shape = shape and all(slow_is_stand(table, height, stand) for stands in guesses for stand in stands)
    shape = shape and all(len(row) == len(table[0]) for row in moves)
    if not shape or not all(number in range(len(guesses)) for row in moves for number in row):
        return NotAllowed
    fair = all(stand in slow_starts(height) for stand in guesses[0]) and all(len(stands) > 0 for stands in guesses)
    for stands, row in zip(guesses, moves):
        for letter, number in zip(table[0], row):
            reached = slow_steps(table, kind, height, stands, letter)
            fair = fair and all(stand in reached for stand in guesses[number])
    return None if fair else BadPaper


def slow_more(table, kind, height, log, covers):
    """What the judge of covers has to say: an error class, or None."""
    shape = len(covers) == len(log) + 1
    if not shape or not all(slow_is_stand(table, height, stand) for stands in covers for stand in stands):
        return NotAllowed
    needed = [slow_starts(height)]
    needed += [slow_steps(table, kind, height, covers[at], letter) for at, letter in enumerate(log)]
    fair = all(any(slow_freer(stand, goal) for stand in cover) for cover, goals in zip(covers, needed) for goal in goals)
    return None if fair and covers[-1] == () else BadPaper


def wrong_stands(table, height, stand, at):
    """Stands and things that are none, made from one by changing the entry of a level."""
    many = len(table[2])
    # An element that is no idempotent cannot be a unit.
    others = [e for e in range(many) if table[2][e][e] != e][:1]
    entries = [(), (-1, -1), (0, -1), (many, -1), (-2, -1), (0, many), (0, -2), (many - 1, -1)]
    entries += [(0, unit) for unit in others] + [(-1, e) for e in range(many) if table[2][e][e] == e][:2]
    changed = [stand[:at] + (entry,) + stand[at + 1:] for entry in entries]
    return changed + [stand + ((),), stand[:-1], (), ((), (), (), (), ()), stand + ((-1, -1),)]


class EnoughTest(unittest.TestCase):
    def judged(self, table, kind, height, guesses, moves):
        wanted = slow_enough(table, kind, height, guesses, moves)
        if wanted is None:
            self.assertIsNone(judge_enough(table, kind, height, guesses, moves))
        else:
            with self.assertRaises(wanted, msg=(table, kind, height, guesses, moves)):
                judge_enough(table, kind, height, guesses, moves)
        return wanted

    def test_examples(self):
        word, sets, moves = sets_of(DROP, "good", 2)
        self.assertEqual(word, "enough")
        self.assertIsNone(judge_enough(DROP, "good", 2, sets, moves))
        with self.assertRaises(BadPaper):
            judge_enough(DROP, "good", 2, sets[:1], ((0,),))

    def test_sets_are_taken(self):
        done = 0
        for table in fixed_tables() + random_tables(131, 25, 20):
            for kind in KINDS:
                for height in (1, 2, 3):
                    try:
                        answer = sets_of(table, kind, height)
                    except TooLarge:
                        continue
                    if answer[0] == "enough":
                        done += 1
                        self.assertIsNone(judge_enough(table, kind, height, answer[1], answer[2]))
        self.assertGreater(done, 40)

    def test_each_part_wrong(self):
        rng = random.Random(132)
        told = {None: 0, BadPaper: 0, NotAllowed: 0}
        for table, kind, height in ((DROP, "good", 2), (LEFT_ZERO, "forward", 1), (LEFT_ZERO, "good", 2),
                                    (power_table(0, 3), "good", 3), (TURN, "forward", 2), (BRANDT, "good", 3)):
            _, guesses, moves = sets_of(table, kind, height)
            for _ in range(120):
                at = rng.randrange(len(guesses))
                row = list(moves[at])
                row[rng.randrange(len(row))] = rng.choice([-1, len(guesses), rng.randrange(len(guesses))])
                stands = list(guesses[at])
                number = rng.randrange(len(stands))
                sort = rng.randrange(7)
                if sort == 0:
                    stands[number] = rng.choice(wrong_stands(table, height, stands[number], rng.randrange(height)))
                elif sort == 1:
                    del stands[number]
                elif sort == 2:
                    stands.append(rng.choice(wrong_stands(table, height, stands[number], rng.randrange(height))))
                elif sort == 3:
                    row = rng.choice([row[:-1], row + [0], []])
                elif sort == 4:
                    stands = rng.choice([[], stands[::-1], stands + stands])
                new_guesses = guesses[:at] + (tuple(stands),) + guesses[at + 1:]
                new_moves = moves[:at] + (tuple(row) if sort in (3, 5) else moves[at],) + moves[at + 1:]
                if sort == 6:
                    new_moves = rng.choice([moves[:-1], moves + moves[:1], ()])
                told[self.judged(table, kind, height, new_guesses, new_moves)] += 1
        self.assertGreater(min(told.values()), 30)

    def test_small_wrong_papers(self):
        start = ((-1, -1), ())
        for guesses, moves in (((), ()), (((),), ((0,),)), (((start,),), ()), (((start,),), ((0, 0),)),
                               (((start,),), ((1,),)), (((start,),), ((-1,),)), (((((0, 0), ()),),), ((0,),)),
                               ((((),),), ((0,),)), (((((1, 1), ()),),), ((0,),)), (((start,), ()), ((1,), (1,)))):
            self.assertIsNotNone(self.judged(DROP, "good", 2, guesses, moves))
        # An empty guess is refused, even if no move leads to it.
        _, sets, moves = sets_of(DROP, "good", 2)
        self.assertIs(self.judged(DROP, "good", 2, sets + ((),), moves + ((0,),)), BadPaper)

    def test_other_closed_tables(self):
        # One start alone is enough, and stands that steps do not lead to may be there if no move leads to them.
        stand, other = ((-1, -1), ()), ((0, -1), (-1, -1))
        behind = ((-1, 1), ())
        third = ((0, 1), (-1, -1))
        guesses = ((stand,), (other,), (behind,), (third,))
        self.assertIsNone(self.judged(DROP, "good", 2, guesses, ((1,), (2,), (3,), (2,))))
        strange = ((1, 1), (1, 1))
        guesses = ((stand,), (other,), (strange,), (behind, behind), (third,))
        self.assertIsNone(self.judged(DROP, "good", 2, guesses, ((1,), (3,), (3,), (4,), (3,))))

    def test_heights_and_kinds(self):
        _, sets, moves = sets_of(LEFT_ZERO, "forward", 1)
        self.assertIsNone(self.judged(LEFT_ZERO, "forward", 1, sets, moves))
        self.assertIs(self.judged(LEFT_ZERO, "good", 1, sets, moves), BadPaper)
        self.assertIs(self.judged(LEFT_ZERO, "forward", 2, sets, moves), NotAllowed)
        _, sets, moves = sets_of(LEFT_ZERO, "good", 4)
        self.assertIsNone(self.judged(LEFT_ZERO, "good", 4, sets, moves))
        self.assertIs(self.judged(LEFT_ZERO, "good", 3, sets, moves), NotAllowed)


class MoreTest(unittest.TestCase):
    def judged(self, table, kind, height, log, covers):
        wanted = slow_more(table, kind, height, log, covers)
        if wanted is None:
            self.assertIsNone(judge_more(table, kind, height, log, covers))
        else:
            with self.assertRaises(wanted, msg=(table, kind, height, log, covers)):
                judge_more(table, kind, height, log, covers)
        return wanted

    def covers_of(self, table, kind, height, log):
        sets = shortfall(table, kind, log, height)
        covers = [tuple(stands) for stands in sets]
        return tuple(covers + [()] * (len(log) + 1 - len(covers)))

    def test_example(self):
        self.assertIsNone(judge_more(DROP, "good", 1, ("a", "a"), ((((-1, -1),),), (), ())))

    def test_sets_are_taken(self):
        done = 0
        for table in fixed_tables() + random_tables(133, 30, 40):
            for kind in KINDS:
                for height in (1, 2, 3):
                    try:
                        answer = sets_of(table, kind, height)
                    except TooLarge:
                        continue
                    if answer[0] == "more":
                        done += 1
                        log = answer[1] + table[0][:1]
                        covers = self.covers_of(table, kind, height, log)
                        self.assertIsNone(judge_more(table, kind, height, log, covers))
                        with self.assertRaises(NotAllowed):
                            judge_more(table, kind, height, log, covers[:-1])
                        with self.assertRaises(NotAllowed):
                            judge_more(table, kind, height, log, covers + ((),))
        self.assertGreater(done, 40)

    def test_each_part_wrong(self):
        rng = random.Random(134)
        told = {None: 0, BadPaper: 0, NotAllowed: 0}
        for table, kind, height, log in ((power_table(0, 4), "good", 2, ("a",) * 5), (TURN, "good", 1, ("b", "a")),
                                         (RIGHT_ZERO, "forward", 1, ("b", "a", "b")),
                                         (power_table(0, 5), "forward", 3, ("a",) * 12)):
            covers = self.covers_of(table, kind, height, log)
            for _ in range(150):
                at = rng.randrange(len(covers))
                stands = list(covers[at])
                begun = stands[rng.randrange(len(stands))] if stands else ((),) * height
                other = rng.choice(wrong_stands(table, height, begun, rng.randrange(height)))
                sort = rng.randrange(4)
                if sort == 0:
                    stands = [stand for stand in stands if stand != begun] + [other]
                elif sort == 1:
                    stands = [stand for stand in stands if stand != begun]
                elif sort == 2:
                    stands = stands + [other]
                else:
                    stands = stands[::-1] + stands
                told[self.judged(table, kind, height, log, covers[:at] + (tuple(stands),) + covers[at + 1:])] += 1
        self.assertGreater(min(told.values()), 30)

    def test_log_with_split(self):
        # No covers show it of a log that has a split: the last one would not be empty.
        start = ((-1, -1),)
        for covers in ((), ((start,),), ((),)):
            self.assertIsNotNone(self.judged(TURN, "good", 1, (), covers))
        self.assertIs(self.judged(TURN, "good", 1, ("b",), ((start,), ())), BadPaper)
        self.assertIs(self.judged(TURN, "good", 1, ("b",), ((start,), (((-1, 1),),))), BadPaper)

    def test_freer_stands_cover(self):
        # The freest stand covers all others, but from it all steps are possible.
        self.assertIsNone(self.judged(TURN, "good", 1, ("a",), ((((-1, -1),),), ())))
        self.assertIs(self.judged(TURN, "good", 1, ("a",), ((((),),), ())), BadPaper)
        self.assertIs(self.judged(TURN, "good", 1, ("b", "a"), ((((-1, -1),),), (((-1, -1),),), ())), None)
        self.assertIs(self.judged(TURN, "good", 1, ("b", "a"), ((((-1, -1),),), (((0, -1),),), ())), BadPaper)

    def test_long_log(self):
        log = ("b",) * 399 + ("a",)
        covers = ((((-1, -1),),),) + ((((-1, 1),),),) * 399 + ((),)
        self.assertIsNone(judge_more(TURN, "good", 1, log, covers))
        with self.assertRaises(BadPaper):
            judge_more(TURN, "good", 1, log, covers[:200] + ((),) + covers[201:])
        with self.assertRaises(BadPaper):
            judge_more(TURN, "good", 1, ("b",) * 400, covers)


class ReadSplitTest(unittest.TestCase):
    def test_example(self):
        _, sets, moves = sets_of(DROP, "good", 2)
        self.assertIn(read_split(DROP, "good", ("a", "a", "a"), sets, moves), [(1, 2, 1, 2), (2, 1, 2, 1)])

    def test_all_short_logs(self):
        for table in (DROP, LEFT_ZERO, TURN, BRANDT, power_table(1, 2)):
            for kind in KINDS:
                _, sets, moves = sets_of(table, kind, 3)
                for log in logs_up_to(table[0], 5):
                    split = read_split(table, kind, log, sets, moves)
                    self.assertIsInstance(split, tuple)
                    self.assertEqual((len(split), max(split) <= 3), (len(log) + 1, True))
                    self.assertTrue(slow_is_split(table, kind, log, split))

    def test_long_logs(self):
        rng = random.Random(135)
        done = 0
        for table in fixed_tables() + random_tables(136, 20, 12):
            for kind in KINDS:
                for height in (1, 2, 3, 4):
                    try:
                        answer = sets_of(table, kind, height)
                    except TooLarge:
                        continue
                    if answer[0] == "enough":
                        done += 1
                        for many in (0, 1, 60 if done % 20 else 400):
                            log = random_log(rng, table, many)
                            split = read_split(table, kind, log, answer[1], answer[2])
                            judge_split(table, kind, log, height, split)
        self.assertGreater(done, 40)

    def test_other_closed_table(self):
        stand, other, behind, third = ((-1, -1), ()), ((0, -1), (-1, -1)), ((-1, 1), ()), ((0, 1), (-1, -1))
        guesses = ((stand,), (other,), (behind,), (third,))
        split = read_split(DROP, "good", ("a",) * 6, guesses, ((1,), (2,), (3,), (2,)))
        self.assertEqual(split, (1, 2, 1, 2, 1, 2, 1))


if __name__ == "__main__":
    unittest.main()
