"""Tests of scarp.growers: [10.1], [10.2], [10.8], and the products of growers."""

import random
import unittest

from scarp.errors import Missing, NotAllowed, TooLarge
from scarp.growers import Grower
from scarp.growing import most_stored, pieces_of
from scarp.growths import growth
from scarp.tables import value_of
from tests.growth_samples import asked_places, least_pieces, rule_choices, stored_slices
from tests.samples import BRANDT, LEFT_ZERO, THREE_ROOMS, TURN, random_log, random_tables, slow_value
from tests.test_growing import random_rule

KINDS = ("many", "one")


class GrowerTest(unittest.TestCase):
    def test_examples(self):
        grower = Grower(TURN, "many", 4, ((), ((3,),)))
        for letter in ("a", "b", "a", "a"):
            self.assertIsNone(grower.append(letter))
        self.assertEqual(grower.kept(), [(0, 1, 0), (0, 3, 1), (1, 2, 1), (1, 4, 1), (2, 3, 0), (3, 4, 0)])
        self.assertEqual(grower.products(), 4)
        self.assertEqual((grower.value(0), grower.pieces(0), grower.products()), (0, 2, 5))

    def follow(self, table, kind, window, rule, log):
        """A grower along a log, asked for all it tells behind each letter."""
        grower = Grower(table, kind, window, rule)
        self.assertEqual((grower.place(), grower.kept(), grower.products()), (0, [], 0))
        most, stored = pieces_of(kind, window, rule), most_stored(kind, window, rule)
        made = 0
        choices = rule_choices(rule, len(log))
        for y, letter in enumerate(log, 1):
            before = stored_slices(kind, choices[:y - 1])
            made += sum(least_pieces(before, y - offset, y - 1) for offset in choices[y - 1] if offset <= y)
            grower.append(letter)
            spans = stored_slices(kind, choices[:y])
            self.assertEqual((grower.place(), grower.products()), (y, made))
            kept = [span for span in spans if span[0] >= y - window]
            self.assertEqual(grower.kept(), [(x, end, slow_value(table, log[x:end])) for x, end in kept])
            self.assertLessEqual(len(kept), stored)
            for x in asked_places(window, y):
                pieces = least_pieces(spans, x, y)
                self.assertEqual(grower.pieces(x), pieces)
                self.assertLessEqual(pieces, most)
                self.assertEqual(grower.products(), made)
                self.assertEqual(grower.value(x), value_of(table, log[x:y]))
                made += pieces - 1
                self.assertEqual(grower.products(), made)
        return grower

    def test_by_definition(self):
        rng = random.Random(341)
        for table in [TURN, BRANDT, LEFT_ZERO, THREE_ROOMS] + random_tables(342, 6, 20):
            for _ in range(6):
                window = rng.randint(1, 7)
                rule = random_rule(rng, window, 4, 4)
                letters = len(rule[0]) if rule[1] == () else 16
                self.follow(table, rng.choice(KINDS), window, rule, random_log(rng, table, letters))

    def test_rules_of_growths(self):
        rng = random.Random(343)
        for kind, window, pieces, backs in (("many", 5, 2, 1), ("one", 4, 2, 1), ("many", 8, 3, 1), ("one", 8, 2, 3)):
            rule = growth(kind, window, pieces, backs)[1:]
            grower = self.follow(THREE_ROOMS, kind, window, rule, random_log(rng, THREE_ROOMS, 40))
            self.assertEqual(max(grower.pieces(x) for x in range(40 - window, 40)) <= pieces, True)

    def test_one_and_twelve(self):
        rng = random.Random(344)
        for kind in KINDS:
            grower = self.follow(BRANDT, kind, 1, ((), ((),)), random_log(rng, BRANDT, 5))
            self.assertEqual((grower.products(), len(grower.kept())), (0, 1))
            self.follow(BRANDT, kind, 12, ((), ((2, 3, 12), (5,))), random_log(rng, BRANDT, 30))
            self.follow(BRANDT, kind, 12, (((),), ((12,),) * 59), random_log(rng, BRANDT, 30))

    def test_not_asked(self):
        for kind in KINDS:
            grower = Grower(TURN, kind, 3, ((), ((2,),)))
            for y in range(6):
                for x in (-1, y - 4, y, y + 1):
                    if x not in asked_places(3, y):
                        for ask in (grower.value, grower.pieces):
                            with self.assertRaises(Missing, msg=(x, y)):
                                ask(x)
                made = grower.products()
                grower.append("a")
                self.assertGreaterEqual(grower.products(), made)

    def test_plans(self):
        for kind in KINDS:
            for stem in (((),), ((), (2,), (3,)), ((),) * 60):
                grower = Grower(TURN, kind, 4, (stem, ()))
                for _ in stem:
                    grower.append("a")
                kept, made = grower.kept(), grower.products()
                with self.assertRaises(TooLarge):
                    grower.append("a")
                # What is no letter is told first, also when the plan is over.
                with self.assertRaises(NotAllowed):
                    grower.append("c")
                self.assertEqual((grower.kept(), grower.products(), grower.place()), (kept, made, len(stem)))

    def test_wrong_letters(self):
        grower = Grower(TURN, "many", 4, ((), ((3,),)))
        for letter in ("c", "", "ab"):
            with self.assertRaises(NotAllowed):
                grower.append(letter)
        self.assertEqual((grower.place(), grower.kept()), (0, []))

    def test_wrong_rules(self):
        for kind, window, rule in (("both", 4, ((), ((),))), ("many", 0, ((), ((),))), ("one", 13, ((), ((),))),
                                   ("many", 4, ((), ())), ("one", 4, ((), ((1,),))), ("one", 4, ((), ((5,),))),
                                   ("many", 4, (((3, 2),), ())), ("many", 4, ((), ((2, 2),))),
                                   ("many", 4, ((), ((),) * 61)), ("one", 4, (((),) * 61, ())),
                                   ("one", 4, (((),) * 31, ((),) * 30))):
            with self.assertRaises(NotAllowed, msg=(kind, window, rule)):
                Grower(TURN, kind, window, rule)

    def test_copies(self):
        rng = random.Random(345)
        for kind in KINDS:
            grower = Grower(BRANDT, kind, 5, (((), (2,)), ((3,), (2, 5))))
            log = random_log(rng, BRANDT, 12)
            for letter in log[:7]:
                grower.append(letter)
            grower.value(3)
            other = grower.copy()
            self.assertEqual((other.kept(), other.products(), other.place()), (grower.kept(), grower.products(), 7))
            for letter in log[7:]:
                other.append(letter)
            self.assertEqual((grower.place(), other.place()), (7, 12))
            self.assertEqual([grower.value(x) for x in range(2, 7)], [slow_value(BRANDT, log[x:7]) for x in range(2, 7)])
            self.assertEqual([other.value(x) for x in range(7, 12)], [slow_value(BRANDT, log[x:12]) for x in range(7, 12)])
            made = other.products()
            grower.append("a")
            grower.value(4)
            self.assertEqual((other.products(), other.place()), (made, 12))

    def test_kept_is_new(self):
        grower = Grower(TURN, "one", 4, ((), ((3,),)))
        grower.append("a")
        grower.kept().append(7)
        self.assertEqual(grower.kept(), [(0, 1, 0)])


if __name__ == "__main__":
    unittest.main()
