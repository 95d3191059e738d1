"""Tests of scarp.growing: [10.1] to [10.4], and [10.8]."""

import random
import unittest

from scarp import growing
from scarp.errors import NotAllowed
from scarp.growing import full_choices, most_needed, most_stored, pieces_of, state_after
from tests.growth_samples import (asked_places, first_row, most_pieces, rule_choices, slow_full_choices, slow_state,
                                  stored_slices)

KINDS = ("many", "one")


def random_choice(rng, window, most):
    """A choice for the window."""
    offsets = range(2, window + 1)
    return tuple(sorted(rng.sample(offsets, rng.randint(0, min(most, len(offsets))))))


def random_rule(rng, window, stem, cycle):
    """A rule for the window, with at most so many choices of each sort, and at least one."""
    while True:
        parts = [tuple(random_choice(rng, window, 3) for _ in range(rng.randint(0, many))) for many in (stem, cycle)]
        if parts[0] or parts[1]:
            return tuple(parts)


def slow_needed(window, rule, y, letters):
    """The number of the slices that are needed behind a letter; the plan, or what is looked at, has so many letters."""
    choices = rule_choices(rule, letters)
    kept = [span for span in stored_slices("many", choices[:y]) if span[0] >= y - window]
    used = set()
    for later in range(y, min(letters, y + window) + 1):
        spans = stored_slices("many", choices[:later])
        for x in asked_places(window, later):
            row = first_row(spans, x, later)
            used.update(zip(row, row[1:]))
    return len([span for span in kept if span in used])


class ChoicesTest(unittest.TestCase):
    def test_constants(self):
        self.assertEqual((growing.MAX_WINDOW, growing.MAX_PIECES, growing.MAX_BACKS), (12, 6, 3))

    def test_examples(self):
        self.assertEqual(full_choices("many", 4, 1, 3), [(2,), (3,)])
        self.assertEqual(full_choices("one", 4, 1, 3), [(), (2,), (3,)])

    def test_by_definition(self):
        for kind in KINDS:
            for window in range(1, 13):
                for backs in range(4):
                    for place in (1, 2, 3, window - 1, window, window + 1, window + 2, 100):
                        if place >= 1:
                            self.assertEqual(full_choices(kind, window, backs, place),
                                             slow_full_choices(kind, window, backs, place))

    def test_first_places(self):
        for kind in KINDS:
            self.assertEqual(full_choices(kind, 12, 3, 1), [()])
            self.assertEqual(full_choices(kind, 1, 3, 50), [()])
            self.assertEqual(full_choices(kind, 12, 0, 50), [()])
        self.assertEqual(full_choices("many", 12, 3, 2), [(2,)])
        self.assertEqual(full_choices("one", 12, 3, 2), [(), (2,)])
        self.assertEqual(full_choices("many", 3, 3, 3), [(2, 3)])
        self.assertEqual(full_choices("many", 3, 3, 4), [(2, 3)])
        self.assertEqual(full_choices("many", 12, 2, 3), [(2, 3)])
        self.assertEqual(full_choices("one", 3, 2, 9), [(), (2,), (2, 3), (3,)])
        self.assertEqual(len(full_choices("many", 12, 3, 12)), 165)

    def test_wrong(self):
        for kind, window, backs in (("both", 4, 1), ("", 4, 1), ("Many", 4, 1), ("many", 0, 1), ("many", 13, 1),
                                    ("one", -1, 1), ("one", 4, -1), ("many", 4, 4)):
            with self.assertRaises(NotAllowed):
                full_choices(kind, window, backs, 3)


class StateTest(unittest.TestCase):
    def test_examples(self):
        self.assertEqual(state_after("many", 3, ((), (2,), (2,))), ((1,), (1, 1)))
        self.assertEqual(state_after("one", 3, ((), (2,), (2,))), (0, 0))

    def test_by_definition(self):
        rng = random.Random(321)
        for _ in range(300):
            window = rng.randint(1, 7)
            choices = tuple(random_choice(rng, window, 3) for _ in range(rng.randint(0, 11)))
            for kind in KINDS:
                self.assertEqual(state_after(kind, window, choices), slow_state(kind, window, choices))

    def test_wide_windows(self):
        rng = random.Random(322)
        for window in (11, 12):
            for many in (0, 1, window - 1, window, window + 1, 30):
                choices = tuple(random_choice(rng, window, 3) for _ in range(many))
                for kind in KINDS:
                    self.assertEqual(state_after(kind, window, choices), slow_state(kind, window, choices))

    def test_few_letters(self):
        for kind in KINDS:
            self.assertEqual(state_after(kind, 5, ()), ())
            self.assertEqual(state_after(kind, 1, ((), (), ())), ())
        self.assertEqual(state_after("many", 5, ((),)), ((1,),))
        self.assertEqual(state_after("one", 5, ((),)), (0,))
        # An offset that is greater than the place tells of no slice.
        self.assertEqual(state_after("many", 5, ((2, 5), (4,))), ((1,), (2, 1)))
        self.assertEqual(state_after("one", 5, ((2, 5), (4,))), (1, 0))

    def test_wrong(self):
        for kind, window, choices in (("both", 4, ()), ("many", 0, ()), ("many", 13, ()), ("one", 4, ((1,),)),
                                      ("one", 4, ((5,),)), ("many", 4, ((0,),)), ("many", 4, ((-2,),)),
                                      ("many", 4, ((), (3, 2))), ("one", 4, ((2, 2),)), ("many", 1, ((2,),))):
            with self.assertRaises(NotAllowed, msg=(kind, window, choices)):
                state_after(kind, window, choices)


class RuleTest(unittest.TestCase):
    def test_examples(self):
        rule = ((), ((3,),))
        self.assertEqual((pieces_of("many", 4, rule), most_stored("many", 4, rule), most_needed(4, rule)), (2, 6, 4))

    def rules(self, seed, many):
        """Rules with and without a stem and a cycle, and the number of letters after which all has come again."""
        rng = random.Random(seed)
        for at in range(many):
            window = rng.randint(1, 6)
            stem, cycle = ((0, 4), (5, 0), (4, 4))[at % 3]
            rule = random_rule(rng, window, stem, cycle)
            yield window, rule, len(rule[0]) if rule[1] == () else len(rule[0]) + 2 * len(rule[1]) + 2 * window

    def test_pieces_by_definition(self):
        for window, rule, letters in self.rules(323, 150):
            choices = rule_choices(rule, letters)
            for kind in KINDS:
                wanted = max(most_pieces(kind, window, choices[:y]) for y in range(1, letters + 1))
                self.assertEqual(pieces_of(kind, window, rule), wanted, (kind, window, rule))

    def test_stored_by_definition(self):
        for window, rule, letters in self.rules(324, 150):
            choices = rule_choices(rule, letters)
            for kind in KINDS:
                wanted = max(len([span for span in stored_slices(kind, choices[:y]) if span[0] >= y - window])
                             for y in range(1, letters + 1))
                self.assertEqual(most_stored(kind, window, rule), wanted, (kind, window, rule))

    def test_needed_by_definition(self):
        for window, rule, letters in self.rules(325, 60):
            later = letters if rule[1] == () else letters + window
            wanted = max(slow_needed(window, rule, y, later) for y in range(1, letters + 1))
            self.assertEqual(most_needed(window, rule), wanted, (window, rule))

    def test_letters_alone(self):
        for kind in KINDS:
            for window in (1, 2, 12):
                self.assertEqual(pieces_of(kind, window, ((), ((),))), window)
                self.assertEqual(most_stored(kind, window, ((), ((),))), window)
                # A plan for a few letters has no more pieces than letters.
                self.assertEqual(pieces_of(kind, window, (((), ()), ())), min(2, window))
        self.assertEqual(most_needed(12, ((), ((),))), 12)
        self.assertEqual(most_needed(12, (((),), ())), 1)

    def test_one_piece(self):
        # All slices are stored: each is asked, and needed at once only.
        every = tuple(range(2, 13))
        self.assertEqual(pieces_of("many", 12, ((), (every,))), 1)
        self.assertEqual(most_stored("many", 12, ((), (every,))), 78)
        self.assertEqual(most_needed(12, ((), (every,))), 12)
        self.assertEqual((pieces_of("one", 12, ((), (every,))), most_stored("one", 12, ((), (every,)))), (1, 12))

    def test_storing_may_be_worse_for_one(self):
        # A slice takes the place of a letter, from which a longer one would go on later.
        plain, more = (((), (), (2,), (3,)), ()), (((), (2,), (2,), (3,)), ())
        self.assertEqual([pieces_of("one", 4, rule) for rule in (plain, more)], [2, 3])
        self.assertEqual([pieces_of("many", 4, rule) for rule in (plain, more)], [2, 2])
        rng = random.Random(326)
        for _ in range(200):
            choices = tuple(random_choice(rng, 5, 2) for _ in range(8))
            fewer = tuple(tuple(offset for offset in choice if rng.random() < 0.7) for choice in choices)
            self.assertLessEqual(pieces_of("many", 5, (choices, ())), pieces_of("many", 5, (fewer, ())))

    def asks(self, window, rule):
        return [lambda: pieces_of("many", window, rule), lambda: pieces_of("one", window, rule),
                lambda: most_stored("many", window, rule), lambda: most_stored("one", window, rule),
                lambda: most_needed(window, rule)]

    def test_wrong_rules(self):
        for window, rule in ((0, ((), ((),))), (13, ((), ((),))), (4, ((), ())), (4, (((1,),), ())), (4, ((), ((5,),))),
                             (4, ((), ((0,),))), (4, ((), ((), (3, 2)))), (4, (((2, 2),), ((),))), (1, ((), ((2,),))),
                             (4, ((), ((),) * 61)), (4, (((),) * 61, ())), (4, (((),) * 30, ((),) * 31))):
            for ask in self.asks(window, rule):
                with self.assertRaises(NotAllowed, msg=(window, rule)):
                    ask()
        for kind in ("", "both"):
            for ask in (pieces_of, most_stored):
                with self.assertRaises(NotAllowed):
                    ask(kind, 4, ((), ((),)))

    def test_sixty_choices(self):
        for rule in ((((),) * 60, ()), ((), ((),) * 60), (((2,),) * 30, ((3,),) * 30)):
            self.assertEqual([isinstance(ask(), int) for ask in self.asks(12, rule)], [True] * 5)
        # What is worst comes with the last choices of a long cycle alone.
        self.assertEqual(pieces_of("many", 12, ((), ((2, 3, 4, 5, 6, 7, 8, 9, 10, 11, 12),) * 48 + ((),) * 12)), 12)
        self.assertEqual(pieces_of("many", 12, (((),) * 12 + ((2, 3, 4, 5, 6, 7, 8, 9, 10, 11, 12),) * 48, ())), 12)


if __name__ == "__main__":
    unittest.main()
