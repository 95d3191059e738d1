"""Tests of scarp.schemes: [9.5] and [9.6]."""

import itertools
import random
import unittest

from scarp.cases import least_stock, too_few
from scarp.errors import BadPaper, NotAllowed, TooLarge
from scarp.schemes import cut_number, cut_paper, judge_cuts, scheme_number, scheme_stock
from scarp.stocks import all_slices, check_stock, open_slice


def tried_numbers(most):
    """T(k, N) for small numbers by trying all hubs and gaps, as the document tells the sum."""
    numbers = {(0, 1): 0}
    for pieces in range(1, 7):
        numbers[(pieces, 0)] = 0
        for places in range(1, most + 1):
            if places <= pieces + 1:
                numbers[(pieces, places)] = 0
            elif pieces == 1:
                numbers[(1, places)] = (places - 1) * (places - 2) // 2
            else:
                numbers[(pieces, places)] = min(tried_sums(numbers, pieces, places))
    return numbers


def tried_sums(numbers, pieces, places):
    """The sums of all choices of hubs among so many places."""
    for many in range(1, places + 1):
        if (pieces - 2, many) not in numbers:
            continue
        for hubs in itertools.combinations(range(places), many):
            ends = (-1, *hubs, places)
            gaps = [last - first - 1 for first, last in zip(ends, ends[1:])]
            total = sum(numbers[(pieces, gap)] for gap in gaps) + numbers[(pieces - 2, many)]
            total += sum(gap - 1 for gap in (gaps[0], gaps[-1]) if gap >= 1)
            yield total + sum(2 * gap - 1 for gap in gaps[1:-1] if gap >= 1)


def slow_numbers(most):
    """T(k, N) for all numbers: what lies behind the last hub so far costs the least that is told for its places."""
    numbers = {(0, 1): 0}
    endless = 10 ** 9
    for pieces in range(1, 7):
        numbers[(pieces, 0)] = 0
        # The least sum of the gaps of so many places whose last one is a hub, by the places and the hubs.
        begun = {}
        for places in range(1, most + 1):
            if pieces == 1:
                numbers[(1, places)] = max(0, (places - 1) * (places - 2) // 2)
                continue
            best = 0 if places <= pieces + 1 else endless
            for hubs in range(1, places):
                for gap in range(1, places - hubs + 1):
                    if (places - gap, hubs) in begun and (pieces - 2, hubs) in numbers and best > 0:
                        total = begun[(places - gap, hubs)] + gap - 1 + numbers[(pieces - 2, hubs)]
                        best = min(best, total + numbers[(pieces, gap)])
            for hubs in range(1, places + 1):
                gap = places - hubs if hubs == 1 else None
                ways = [max(0, gap - 1) + numbers[(pieces, gap)]] if hubs == 1 else []
                if hubs > 1:
                    for gap in range(places - hubs + 1):
                        if (places - gap - 1, hubs - 1) in begun:
                            cost = max(0, 2 * gap - 1) + numbers[(pieces, gap)]
                            ways.append(begun[(places - gap - 1, hubs - 1)] + cost)
                if ways:
                    begun[(places, hubs)] = min(ways)
                    # No gap behind the last hub.
                    if best > 0 and (pieces - 2, hubs) in numbers:
                        best = min(best, begun[(places, hubs)] + numbers[(pieces - 2, hubs)])
            numbers[(pieces, places)] = best
    return numbers


def slow_value(n, paper):
    """The value of a cut paper whose case papers are right, None if it is none."""
    if paper == ("none",):
        return 0
    if paper[0] == "cut" and len(paper) == 4 and 1 <= paper[1] <= n:
        left, right = slow_value(paper[1] - 1, paper[2]), slow_value(n - paper[1], paper[3])
        if left is None or right is None:
            return None
        return left + right + min(paper[1], n + 1 - paper[1]) - 1
    if paper[0] == "cases" and len(paper) == 3 and 1 <= n <= 12:
        return paper[1] + 1
    return None


class SchemeTest(unittest.TestCase):
    def test_examples(self):
        self.assertEqual([scheme_number(n, 2) for n in range(1, 11)], [0, 0, 1, 2, 3, 4, 6, 8, 10, 12])
        self.assertEqual((scheme_number(60, 2), scheme_number(60, 3), scheme_number(60, 6)), (188, 109, 55))

    def test_small_numbers(self):
        numbers = tried_numbers(11)
        for n in range(1, 11):
            for most in range(1, 7):
                self.assertEqual(scheme_number(n, most), numbers[(most, n + 1)], (n, most))

    def test_all_numbers(self):
        numbers = slow_numbers(61)
        small = tried_numbers(9)
        for pair, number in small.items():
            self.assertEqual(numbers[pair], number)
        for n in range(1, 61):
            for most in range(1, 7):
                self.assertEqual(scheme_number(n, most), numbers[(most, n + 1)], (n, most))

    def test_sums_of_depths(self):
        # For two pieces the number is the sum of the depths in a tree of places, less the letters.
        for n in range(2, 61):
            depths = sum((place + 1).bit_length() - 1 for place in range(n + 1))
            self.assertEqual(scheme_number(n, 2), depths - n)

    def test_stocks(self):
        for n in list(range(1, 20)) + [31, 35, 47, 60]:
            for most in range(1, 7):
                if scheme_number(n, most) > 600:
                    continue
                stock = scheme_stock(n, most)
                self.assertIsNone(check_stock(n, stock))
                self.assertEqual(len(stock), scheme_number(n, most))
                self.assertIsNone(open_slice(n, most, all_slices(n), stock))

    def test_too_large(self):
        self.assertEqual((scheme_number(35, 1), len(scheme_stock(35, 1))), (595, 595))
        self.assertEqual(scheme_number(36, 1), 630)
        for n in (36, 37, 60):
            with self.assertRaises(TooLarge):
                scheme_stock(n, 1)

    def test_ranges(self):
        for n, most in ((0, 2), (61, 2), (-1, 2), (5, 0), (5, 7), (5, -1), (61, 1), (0, 0), (60, 7)):
            for ask in (scheme_number, scheme_stock):
                with self.assertRaises(NotAllowed, msg=(n, most)):
                    ask(n, most)

    def test_least_stocks_need_no_more(self):
        for n in range(1, 8):
            for most in (2, 3, 4):
                self.assertLessEqual(len(least_stock(n, most, all_slices(n))), scheme_number(n, most))


class CutTest(unittest.TestCase):
    def judged(self, n, number, paper):
        value = slow_value(n, paper)
        if value is not None and value >= number:
            self.assertIsNone(judge_cuts(n, number, paper))
            return True
        with self.assertRaises(BadPaper, msg=(n, number, paper)):
            judge_cuts(n, number, paper)
        return False

    def test_examples(self):
        self.assertEqual([cut_number(n) for n in range(1, 11)], [0, 0, 1, 1, 2, 3, 5, 5, 6, 7])
        self.assertIsNone(judge_cuts(10, 7, cut_paper(10)))

    def test_greatest_value(self):
        best = [0]
        for n in range(1, 61):
            best.append(max(max(best[p - 1] + best[n - p] + min(p, n + 1 - p) - 1 for p in range(1, n + 1)), 0))
        for n in range(61):
            self.assertEqual(cut_number(n), best[n])
            paper = cut_paper(n)
            self.assertNotIn("cases", str(paper))
            self.assertEqual(slow_value(n, paper), best[n])
            self.assertTrue(self.judged(n, best[n], paper))
            self.assertFalse(self.judged(n, best[n] + 1, paper))
            if n > 0:
                self.assertLessEqual(best[n], scheme_number(n, 2))

    def test_ranges(self):
        for n in (-1, 61, 100):
            for ask in (lambda: cut_number(n), lambda: cut_paper(n), lambda: judge_cuts(n, 0, ("none",)),
                        lambda: judge_cuts(n, 0, ("some",))):
                with self.assertRaises(NotAllowed):
                    ask()
        self.assertEqual((cut_number(0), cut_paper(0), judge_cuts(0, 0, ("none",))), (0, ("none",), None))

    def test_case_papers(self):
        paper = ("cases", 1, too_few(4, 2, all_slices(4), 1))
        self.assertTrue(self.judged(4, 2, paper))
        self.assertFalse(self.judged(4, 3, paper))
        five = ("cases", 2, too_few(5, 2, all_slices(5), 2))
        self.assertTrue(self.judged(5, 3, five))
        both = ("cut", 6, five, paper)
        self.assertTrue(self.judged(10, 3 + 2 + 4, both))
        self.assertFalse(self.judged(10, 3 + 2 + 5, both))
        self.assertTrue(self.judged(5, -3, ("cases", -4, ("full", ()))))
        self.assertFalse(self.judged(5, -2, ("cases", -4, ("full", ()))))

    def test_wrong_case_papers(self):
        paper = too_few(4, 2, all_slices(4), 1)
        # One slice more is not shown; nor is the same for fewer letters.
        for n, wrong in ((4, ("cases", 2, paper)), (3, ("cases", 1, paper)), (4, ("cases", 1, ("full", ()))),
                         (4, ("cases", 1, ("cases", (0, 3), ()))), (4, ("cases", 0, ("fully", ((0, 3),))))):
            with self.assertRaises(BadPaper):
                judge_cuts(n, 0, wrong)
        # A case paper is for 1 to 12 letters.
        full = ("full", ((0, 3), (3, 6), (6, 9), (9, 12)))
        self.assertIsNone(judge_cuts(12, 4, ("cases", 3, full)))
        self.assertIsNone(judge_cuts(1, 0, ("cases", -1, ("full", ()))))
        for n in (0, 13, 60):
            with self.assertRaises(BadPaper):
                judge_cuts(n, 0, ("cases", -1, ("full", ())))

    def test_forms(self):
        none = ("none",)
        for n, wrong in ((4, ("some",)), (4, ("none", 1, ("full", ()))), (4, ("cut",)), (4, ("cases",)),
                         (4, ("cut", 0, none, none)), (4, ("cut", 5, none, none)), (4, ("cut", -1, none, none)),
                         (4, ("cut", 1, ("full", ()))), (4, ("cases", 1, none, none)), (0, ("cut", 1, none, none)),
                         (0, ("cut", 0, none, none)), (4, ("none", 1, none, none)), (4, ("", 1, none, none)),
                         (1, ("cut", 1, ("cut", 1, none, none), none)), (4, ("cut", 2, none, ("some",)))):
            self.assertFalse(self.judged(n, 0, wrong))
        self.assertTrue(self.judged(1, 0, ("cut", 1, none, none)))
        self.assertTrue(self.judged(4, -9, none))

    def test_each_part_wrong(self):
        rng = random.Random(231)
        told = [0, 0]
        for n in (7, 15, 31, 60):
            for _ in range(60):
                told[self.judged(n, cut_number(n), self.changed(rng, cut_paper(n)))] += 1
        self.assertGreater(told[0], 100)

    def changed(self, rng, paper):
        """A paper with some part changed."""
        if paper == ("none",):
            return rng.choice((("cut", 1, ("none",), ("none",)), ("no",), ("cases", -1, ("full", ())), paper))
        _, at, left, right = paper
        sort = rng.randrange(6)
        if sort == 0:
            return ("cut", at + rng.choice((-1, 1, 60)), left, right)
        if sort == 1:
            return ("cut", at, right, left)
        if sort == 2:
            return ("cut", at, left)
        if sort < 5:
            return ("cut", at, self.changed(rng, left), right)
        return ("cut", at, left, self.changed(rng, right))


if __name__ == "__main__":
    unittest.main()
