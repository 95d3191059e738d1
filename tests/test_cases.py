"""Tests of scarp.cases: [9.3] and [9.4]."""

import itertools
import random
import unittest

from scarp import cases
from scarp.cases import judge_few, least_stock, too_few
from scarp.errors import BadPaper, Missing, NotAllowed, TooLarge
from scarp.stocks import all_slices, open_slice, row_of


def slow_unanswered(n, most, asked, taken):
    """The slices that are asked and not answered by what is taken."""
    stock = tuple(sorted(taken))
    return [span for span in asked if len(row_of(n, stock, span)) - 1 > most]


def slow_apart(spans):
    """The greatest number of some slices no two of which have a letter in common, place by place."""
    best = [0]
    for place in range(1, 14):
        best.append(max([best[-1]] + [best[first] + 1 for first, last in spans if last == place]))
    return best[-1]


def slow_choices(span, taken, refused):
    """The choices within a slice, in their order."""
    x, y = span
    inner = [(a, b) for a in range(x, y) for b in range(a + 2, y + 1) if (a, b) not in taken + refused]
    return sorted(inner, key=lambda choice: (choice[0] - choice[1], choice))


class Looks:
    """Looking for a stock, by the words of the document."""

    def __init__(self, n, most, asked, number):
        self.demand, self.number, self.looked = (n, most, asked), number, 0

    def found(self, taken=(), refused=()):
        self.looked += 1
        if self.looked > 1000:
            raise TooLarge
        n, most, asked = self.demand
        left = slow_unanswered(n, most, asked, taken)
        if len(taken) + slow_apart(left) > self.number:
            return None
        if not left:
            return tuple(sorted(taken))
        span = open_slice(n, most, asked, tuple(sorted(taken)))
        choices = slow_choices(span, taken, refused)
        for at, choice in enumerate(choices):
            stock = self.found(taken + (choice,), refused + tuple(choices[:at]))
            if stock is not None:
                return stock
        return None


def slow_found(n, most, asked, number):
    """The stock that is found for a number, None if none is, or the error."""
    try:
        return Looks(n, most, asked, number).found()
    except TooLarge:
        return TooLarge


def slow_paper(n, most, asked, number, paper, taken=(), refused=()):
    """Whether this is a case paper, by the words of the document."""
    left = slow_unanswered(n, most, asked, taken)
    if len(paper) == 2 and paper[0] == "full":
        for one, other in itertools.combinations(paper[1], 2):
            if one[0] < other[1] and other[0] < one[1]:
                return False
        return all(span in left for span in paper[1]) and len(taken) + len(paper[1]) > number
    if len(paper) != 3 or paper[0] != "cases" or paper[1] not in left:
        return False
    choices = slow_choices(paper[1], taken, refused)
    states = [(taken + (choice,), refused + tuple(choices[:at])) for at, choice in enumerate(choices)]
    return len(states) == len(paper[2]) and all(slow_paper(n, most, asked, number, tree, *state)
                                                for tree, state in zip(paper[2], states))


def random_demand(rng, n):
    """A demand for so many letters."""
    asked = all_slices(n)
    share = rng.choice((0.1, 0.3, 0.6, 1))
    return n, rng.randint(1, 3), tuple(span for span in asked if rng.random() < share)


# Demands, numbers, and how many states are looked at for them; found by trying.
STATES = (
    ((12, 3, ((0, 7), (0, 12), (1, 4), (2, 5), (2, 8), (3, 4), (3, 11), (5, 9))), 3, 1000),
    ((11, 2, ((0, 3), (0, 5), (0, 7), (0, 10), (2, 4), (2, 9), (4, 5), (5, 7), (6, 8), (6, 11), (7, 8), (7, 9), (8, 9))),
     4, 1001),
    ((11, 3, ((0, 1), (0, 4), (0, 7), (0, 8), (0, 10), (1, 5), (1, 6), (1, 7), (1, 9), (1, 10), (2, 8), (2, 9), (3, 5),
              (3, 8), (4, 6), (4, 7), (4, 9), (6, 7), (6, 9), (7, 9), (7, 10), (10, 11))), 4, 1000),
    ((12, 3, ((0, 11), (2, 4), (2, 8), (3, 4), (3, 5), (5, 10), (5, 12), (6, 10), (7, 8), (7, 9), (7, 12), (8, 12),
              (9, 10))), 4, 1001),
)


class LeastTest(unittest.TestCase):
    def told(self, ask, *parts):
        try:
            return ask(*parts)
        except (TooLarge, Missing) as error:
            return type(error)

    def test_constants(self):
        self.assertEqual((cases.MAX_CASED, cases.MAX_CASES), (12, 1000))

    def test_examples(self):
        self.assertEqual(least_stock(4, 2, all_slices(4)), ((0, 3), (1, 4)))
        self.assertEqual(least_stock(9, 3, ((0, 9), (2, 8))), ((0, 9), (2, 8)))

    def test_no_slices_needed(self):
        for n in (1, 2, 12):
            self.assertEqual(least_stock(n, 1, ()), ())
            self.assertEqual(least_stock(n, 1, ((0, 1),)), ())
        self.assertEqual((least_stock(6, 6, all_slices(6)), least_stock(1, 1, all_slices(1))), ((), ()))

    def test_by_definition(self):
        rng = random.Random(221)
        seen = {"found": 0, "large": 0}
        for at in range(40):
            demand = random_demand(rng, rng.randint(1, 6) if at % 4 else rng.randint(7, 11))
            number = 0
            while (wanted := slow_found(*demand, number)) is None:
                number += 1
            self.assertEqual(self.told(least_stock, *demand), wanted, demand)
            seen["large" if wanted is TooLarge else "found"] += 1
            self.papers_hold(demand, number, wanted)
        self.assertGreater(min(seen.values()), 1, seen)

    def papers_hold(self, demand, least, found):
        """There are papers below the least number, and none from it on."""
        for number in range(-2, least):
            paper = too_few(*demand, number)
            self.assertIsNone(judge_few(*demand, number, paper))
            self.assertTrue(slow_paper(*demand, number, paper))
            with self.assertRaises(BadPaper):
                judge_few(*demand, least + 70, paper)
        for number in (least, least + 1):
            wanted = slow_found(*demand, number)
            self.assertEqual(self.told(too_few, *demand, number), TooLarge if wanted is TooLarge else Missing)
        if found is not TooLarge:
            self.assertEqual(len(found), least)

    def test_fewest_by_trying(self):
        # No stock with fewer slices meets the demand, whatever it is.
        rng = random.Random(222)
        for _ in range(40):
            n, most, asked = random_demand(rng, rng.randint(2, 5))
            stock = least_stock(n, most, asked)
            self.assertIsNone(open_slice(n, most, asked, stock))
            slices = [(x, y) for x in range(n) for y in range(x + 2, n + 1)]
            if len(stock) <= 4:
                for many in range(len(stock)):
                    for fewer in itertools.combinations(slices, many):
                        self.assertIsNotNone(open_slice(n, most, asked, fewer))

    def test_one_piece(self):
        # With one piece each slice that is asked has to be stored.
        asked = tuple(span for span in all_slices(12) if span[1] - span[0] > 1)
        self.assertEqual(least_stock(12, 1, asked), asked)
        self.assertEqual(least_stock(12, 1, all_slices(12)), asked)

    def test_twelve_and_thirteen(self):
        self.assertEqual(least_stock(12, 2, ((0, 12),)), ((0, 12),))
        paper = too_few(12, 2, ((0, 12),), 0)
        self.assertIsNone(judge_few(12, 2, ((0, 12),), 0, paper))
        for ask in (lambda: least_stock(13, 2, ()), lambda: too_few(13, 2, (), -1),
                    lambda: judge_few(13, 2, (), -1, ("full", ())), lambda: least_stock(60, 6, all_slices(60)),
                    lambda: judge_few(13, 2, (), 0, ("none",))):
            with self.assertRaises(NotAllowed):
                ask()

    def test_number_of_states(self):
        for demand, number, looked in STATES:
            looks = Looks(*demand, number)
            wanted = slow_found(*demand, number)
            if looked > 1000:
                self.assertIs(wanted, TooLarge)
                self.assertIs(self.told(too_few, *demand, number), TooLarge)
                self.assertIs(self.told(least_stock, *demand), TooLarge)
                continue
            self.assertEqual((looks.found(), looks.looked), (wanted, 1000))
            if wanted is None:
                self.assertIsNone(judge_few(*demand, number, too_few(*demand, number)))
                self.assertEqual(self.told(least_stock, *demand), slow_found(*demand, number + 1))
            else:
                self.assertIs(self.told(too_few, *demand, number), Missing)
                self.assertEqual(least_stock(*demand), wanted)


class JudgeTest(unittest.TestCase):
    def judged(self, demand, number, paper):
        if slow_paper(*demand, number, paper):
            self.assertIsNone(judge_few(*demand, number, paper))
            return True
        with self.assertRaises(BadPaper, msg=(demand, number, paper)):
            judge_few(*demand, number, paper)
        return False

    def test_examples(self):
        self.assertIsNone(judge_few(3, 2, all_slices(3), 0, ("full", ((0, 3),))))
        self.assertIsNone(judge_few(4, 2, all_slices(4), 1, too_few(4, 2, all_slices(4), 1)))

    def test_full(self):
        demand = (6, 2, all_slices(6))
        for number, slices, right in ((-1, (), True), (0, (), False), (0, ((0, 3),), True), (1, ((0, 3), (3, 6)), True),
                                      (1, ((3, 6), (0, 3)), True), (1, ((0, 3),), False), (1, ((0, 3), (0, 3)), False),
                                      (1, ((0, 3), (2, 5)), False), (1, ((0, 4), (3, 6)), False), (0, ((0, 2),), False),
                                      (0, ((0, 7),), False), (0, ((3, 0),), False), (2, ((0, 3), (3, 6)), False),
                                      (0, ((0, 6),), True), (-5, (), True), (-5, ((0, 1),), False)):
            self.assertIs(self.judged(demand, number, ("full", slices)), right)
        self.assertFalse(self.judged((6, 2, ((0, 3),)), 0, ("full", ((3, 6),))))

    def test_forms(self):
        demand = (4, 2, all_slices(4))
        for paper in (("none", ()), ("fully", ((0, 3),)), ("cases", ()), ("cases", (0, 3), ()), ("full", (0, 3), ()),
                      ("cases", (0, 2), ()), ("cases", (0, 5), ()), ("cases", (3, 0), ()), ("", ()), ("case", (0, 3), ())):
            self.assertFalse(self.judged(demand, 1, paper))
        for head in ("fully", "cases", "", "Full", "found"):
            self.assertFalse(self.judged(demand, 0, (head, ((0, 3),))))
        self.assertTrue(self.judged(demand, 0, ("full", ((0, 3),))))

    def test_each_part_wrong(self):
        rng = random.Random(223)
        told = [0, 0]
        for demand, number in (((4, 2, all_slices(4)), 1), ((5, 2, all_slices(5)), 2), ((9, 3, ((0, 9), (2, 8))), 1),
                               ((6, 3, all_slices(6)), 1)):
            paper = too_few(*demand, number)
            for _ in range(80):
                told[self.judged(demand, number, self.changed(rng, paper))] += 1
        self.assertGreater(told[0], 100)

    def changed(self, rng, paper):
        """A paper with some part changed."""
        if paper[0] == "cases" and rng.random() < 0.7:
            trees = list(paper[2])
            if trees:
                at = rng.randrange(len(trees))
                trees[at] = self.changed(rng, trees[at])
                return ("cases", paper[1], tuple(trees))
        sort = rng.randrange(5)
        if paper[0] == "full":
            slices = list(paper[1])
            if sort == 0:
                slices = slices[1:]
            elif sort == 1:
                slices = slices + slices[:1]
            elif sort == 2:
                slices = slices + [(0, 4)]
            elif sort == 3:
                slices = [(x, y + 1) for x, y in slices]
            return ("cases", (0, 3), ()) if sort == 4 else ("full", tuple(slices))
        if sort == 0:
            return ("cases", paper[1], paper[2][1:])
        if sort == 1:
            return ("cases", paper[1], paper[2] + paper[2][:1])
        if sort == 2:
            return ("cases", paper[1], paper[2][::-1])
        if sort == 3:
            return ("full", (paper[1],))
        return ("cases", (paper[1][0], paper[1][1] - 1), paper[2])

    def test_other_papers(self):
        # Another open slice than the first one may be taken, and nothing need be left to choose.
        demand = (4, 1, all_slices(4))
        inner = ("full", ((2, 4),))
        self.assertTrue(self.judged(demand, 1, ("cases", (0, 2), (inner,))))
        self.assertTrue(self.judged(demand, 1, ("cases", (2, 4), (("full", ((0, 2),)),))))
        # All choices within (0, 3): behind the first ones, those refused are not there any more.
        trees = []
        left = [(0, 3), (0, 2), (1, 3)]
        for choice in left:
            trees.append(("full", ((2, 4),) if choice != (1, 3) else ((0, 2), (2, 4))))
        self.assertTrue(self.judged(demand, 1, ("cases", (0, 3), tuple(trees))))
        # A slice whose only choice is refused has no cases.
        refused = ("cases", (0, 2), ())
        self.assertTrue(self.judged(demand, 1, ("cases", (0, 3), tuple(trees[:2]) + (refused,))))
        self.assertFalse(self.judged(demand, 1, ("cases", (0, 3), (refused,) + tuple(trees[1:]))))


if __name__ == "__main__":
    unittest.main()
