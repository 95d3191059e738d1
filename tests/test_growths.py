"""Tests of scarp.growths: [10.5], [10.6] and [10.7]."""

import itertools
import random
import unittest

from scarp import growths
from scarp.errors import BadPaper, Missing, NotAllowed, TooLarge
from scarp.growing import pieces_of, state_after
from scarp.growths import (greatest_log, greatest_stamps, greatest_window, growth, judge_ranks, judge_rule,
                           ranks_paper)
from tests.growth_samples import (asked_places, most_pieces, rule_choices, slow_full_choices, slow_live, slow_met,
                                  slow_state)

KINDS = ("many", "one")
# Kinds, windows, pieces and offsets, with a rule and without one.
SMALL = [(kind, window, pieces, backs) for kind in KINDS for window in range(1, 6) for pieces in (1, 2, 3)
         for backs in (0, 1, 2)]
NONE = (("many", 3, 2, 0), ("many", 2, 1, 0), ("one", 5, 2, 1), ("many", 6, 2, 1), ("one", 6, 2, 1), ("many", 4, 1, 2),
        ("one", 7, 2, 1))


def slow_growth(kind, window, pieces, backs):
    """The first rule or the greatest number of letters, by striking out dead ends."""
    replies = slow_met(kind, window, pieces, backs, 2000)
    live = slow_live(replies)
    if () not in live:
        return ("none", slow_ranks(replies)[()])
    choices, states = [], [()]
    while states[-1] not in states[:-1]:
        choice, behind = min(reply for reply in replies[states[-1]] if reply[1] in live)
        choices.append(choice)
        states.append(behind)
    begun = states.index(states[-1])
    return ("rule", tuple(choices[:begun]), tuple(choices[begun:]))


def slow_ranks(replies):
    """The greatest number of letters that can follow each state, when one cannot go on for ever."""
    ranks = {state: 0 for state in replies}
    for _ in replies:
        ranks = {state: max((ranks[behind] + 1 for _, behind in replies[state]), default=0) for state in replies}
    return ranks


def slow_is_state(kind, window, pieces, state):
    """Whether a tuple is built as a state is."""
    q = len(state)
    if q > window - 1:
        return False
    for at, part in enumerate(state):
        if kind == "many":
            if not isinstance(part, tuple) or len(part) != at + 1 or not all(1 <= many <= pieces for many in part):
                return False
        elif isinstance(part, tuple) or part not in range(q - at):
            return False
    return True


def slow_comings(kind, window, pieces, backs, state):
    """The states behind one letter more with at most so many pieces, from the numbers of a state alone."""
    q = len(state)
    found = []
    for choice in slow_full_choices(kind, window, backs, q + 1):
        begins = [q] + [q + 1 - offset for offset in choice]
        if kind == "many":
            inner = {(x, p + 1): many for p, row in enumerate(state) for x, many in enumerate(row)}
            counts = [min([inner[(x, z)] + 1 for z in begins if z > x] + [1] * (x in begins)) for x in range(q + 1)]
            rows = list(state) + [tuple(counts)]
            if len(rows) > window - 1:
                rows = [row[1:] for row in rows[1:]]
            behind = tuple(rows)
        else:
            ends = {x: q - back for x, back in enumerate(state)}
            ends.update({x: q + 1 for x in begins})
            counts = []
            for x in range(q + 1):
                many = 0
                while x != q + 1:
                    x, many = ends[x], many + 1
                counts.append(many)
            behind = tuple(q + 1 - ends[x] for x in range(q + 1))
            behind = behind[1:] if len(behind) > window - 1 else behind
        if max(counts) <= pieces:
            found.append(behind)
    return found


def slow_as_good(kind, first, second):
    """Whether the first state is at least as good as the second one."""
    if kind == "one" or len(first) != len(second):
        return first == second
    return all(one <= other for row, more in zip(first, second) for one, other in zip(row, more))


def slow_judge(kind, window, pieces, backs, number, paper):
    """Whether this is a right paper, by the words of the document."""
    if any(rank < 0 or not slow_is_state(kind, window, pieces, state) for state, rank in paper):
        return False
    if list(paper) != sorted(set(paper)) or not any(state == () and rank <= number for state, rank in paper):
        return False
    return all(any(slow_as_good(kind, other, behind) and less < rank for other, less in paper)
               for state, rank in paper for behind in slow_comings(kind, window, pieces, backs, state))


class GrowthTest(unittest.TestCase):
    def test_constants(self):
        self.assertEqual(growths.MAX_MET, 2000)

    def test_examples(self):
        self.assertEqual(growth("many", 3, 2, 0), ("none", 2))
        self.assertEqual(growth("many", 2, 2, 0), ("rule", ((),), ((),)))
        self.assertEqual(growth("one", 5, 2, 1)[0], "none")

    def test_by_definition(self):
        told = {"rule": 0, "none": 0}
        for parts in SMALL + [("many", 6, 2, 1), ("one", 6, 2, 1), ("one", 6, 2, 2), ("one", 7, 1, 3), ("many", 5, 4, 3)]:
            answer = growth(*parts)
            self.assertEqual(answer, slow_growth(*parts), parts)
            told[answer[0]] += 1
        self.assertGreater(min(told.values()), 20)

    def test_window_one(self):
        for kind in KINDS:
            for pieces, backs in itertools.product((1, 6), (0, 3)):
                self.assertEqual(growth(kind, 1, pieces, backs), ("rule", (), ((),)))

    def test_rules_are_kept(self):
        for kind, window, pieces, backs in SMALL + [("many", 8, 3, 1), ("one", 8, 2, 3), ("one", 7, 2, 2), ("one", 8, 3, 1)]:
            answer = growth(kind, window, pieces, backs)
            if answer[0] == "rule":
                self.assertLessEqual(pieces_of(kind, window, answer[1:]), pieces)
                self.assertIsNone(judge_rule(kind, window, pieces, backs, answer[1:]))
                with self.assertRaises(Missing):
                    ranks_paper(kind, window, pieces, backs)

    def test_no_rule_and_no_longer_plan(self):
        # By all plans: some plan has as many letters as is told, and none has one more.
        for kind, window, pieces, backs in SMALL[:40] + [("one", 5, 2, 1)]:
            answer = growth(kind, window, pieces, backs)
            plans = [()]
            for many in range(1, 7):
                plans = [plan + (choice,) for plan in plans for choice in slow_full_choices(kind, window, backs, many)
                         if most_pieces(kind, window, plan + (choice,)) <= pieces]
                self.assertEqual(len(plans) > 0, answer[0] == "rule" or many <= answer[1])
                plans = plans[::max(1, len(plans) // 60)] if answer[0] == "rule" else plans

    def test_number_of_states(self):
        # No numbers make just 2000 states: 1629 is the greatest number below, all others are told to be too many.
        for parts, many in ((("many", 8, 3, 1), 1629), (("one", 8, 6, 1), 1155), (("many", 6, 6, 2), 567)):
            self.assertEqual(len(slow_met(*parts, 2000)), many)
            self.assertEqual(growth(*parts)[0], "rule")
        for parts in (("many", 9, 3, 1), ("many", 7, 2, 2), ("one", 8, 3, 2), ("many", 12, 6, 3), ("one", 12, 6, 3)):
            for ask in (growth, ranks_paper):
                with self.assertRaises(TooLarge, msg=parts):
                    ask(*parts)
        self.assertIsNone(slow_met("one", 8, 3, 2, 2000))

    def test_wrong(self):
        for kind, window, pieces, backs in (("both", 4, 2, 1), ("many", 0, 2, 1), ("many", 13, 2, 1), ("one", 4, 0, 1),
                                            ("one", 4, 7, 1), ("many", 4, 2, -1), ("many", 4, 2, 4), ("", 12, 6, 3),
                                            ("many", 12, 7, 3), ("one", 13, 6, 3)):
            parts = (kind, window, pieces, backs)
            for ask in (lambda: growth(*parts), lambda: ranks_paper(*parts), lambda: judge_rule(*parts, ((), ())),
                        lambda: judge_ranks(*parts, -1, ())):
                with self.assertRaises(NotAllowed, msg=parts):
                    ask()


class RuleTest(unittest.TestCase):
    def refuse(self, *parts):
        with self.assertRaises(BadPaper, msg=parts):
            judge_rule(*parts)

    def test_examples(self):
        self.assertIsNone(judge_rule("many", 4, 2, 1, ((), ((3,),))))

    def test_right_and_wrong(self):
        rng = random.Random(331)
        told = [0, 0]
        for _ in range(300):
            kind, window, pieces, backs = rng.choice(KINDS), rng.randint(1, 5), rng.randint(1, 3), rng.randint(0, 3)
            rule = tuple(tuple(tuple(offset for offset in range(2, window + 1) if rng.random() < 0.4)
                               for _ in range(rng.randint(0, 3))) for _ in range(2))
            choices = rule_choices(rule, 30)
            right = rule[1] != () and all(len(choice) <= backs for choice in choices)
            right = right and all(most_pieces(kind, window, choices[:y]) <= pieces for y in range(1, 31))
            told[right] += 1
            if right:
                self.assertIsNone(judge_rule(kind, window, pieces, backs, rule))
            else:
                self.refuse(kind, window, pieces, backs, rule)
        self.assertGreater(min(told), 30)

    def test_no_rules(self):
        for rule in (((), ()), (((3,),), ()), ((), ((1,),)), ((), ((5,),)), (((5,),), ((3,),)), ((), ((3, 2),)),
                     ((), ((3, 3),)), ((), ((2, 3),)), ((), ((2,), ())), (((0,),), ((3,),)), ((), ((-3,),))):
            self.refuse("many", 4, 2, 1, rule)
        self.assertIsNone(judge_rule("many", 4, 2, 2, ((), ((2, 3),))))
        self.assertIsNone(judge_rule("many", 4, 4, 0, ((), ((),))))
        self.refuse("many", 4, 3, 0, ((), ((),)))
        self.refuse("many", 4, 4, 0, ((), ((2,),)))

    def test_long_rules(self):
        # A rule that is judged may have more than 60 choices.
        self.assertIsNone(judge_rule("many", 4, 2, 1, (((3,),) * 70, ((3,),) * 70)))
        self.assertIsNone(judge_rule("one", 4, 4, 1, ((), ((),) * 200)))
        self.refuse("many", 4, 2, 1, ((), ((3,),) * 70 + ((),) * 4))
        self.refuse("many", 4, 2, 1, (((3,),) * 70 + ((),) * 4, ((3,),)))


class RanksTest(unittest.TestCase):
    def judged(self, parts, number, paper):
        if slow_judge(*parts, number, paper):
            self.assertIsNone(judge_ranks(*parts, number, paper))
            return True
        with self.assertRaises(BadPaper, msg=(parts, number, paper)):
            judge_ranks(*parts, number, paper)
        return False

    def test_examples(self):
        self.assertIsNone(judge_ranks("many", 3, 2, 0, 2, ranks_paper("many", 3, 2, 0)))
        self.assertEqual(ranks_paper("many", 3, 2, 0), (((), 2), (((1,),), 1), (((1,), (2, 1)), 0)))
        self.assertEqual(ranks_paper("one", 3, 2, 0), (((), 2), ((0,), 1), ((1, 0), 0)))

    def test_first_papers(self):
        for parts in NONE:
            paper = ranks_paper(*parts)
            ranks = slow_ranks(slow_met(*parts, 2000))
            self.assertEqual(paper, tuple(sorted(ranks.items())))
            number = growth(*parts)[1]
            self.assertEqual(dict(paper)[()], number)
            for more in (0, 1, 50):
                self.assertTrue(self.judged(parts, number + more, paper))
            for less in (1, 2, 100):
                self.assertFalse(self.judged(parts, number - less, paper))

    def test_each_part_wrong(self):
        rng = random.Random(332)
        told = [0, 0]
        for parts in NONE:
            kind, window, pieces, _ = parts
            paper = ranks_paper(*parts)
            number = dict(paper)[()]
            for _ in range(60):
                told[self.judged(parts, number, self.changed(rng, kind, paper))] += 1
        self.assertGreater(min(told), 30)

    def changed(self, rng, kind, paper):
        """A paper with one part changed."""
        at = rng.randrange(len(paper))
        state, rank = paper[at]
        sort = rng.randrange(8)
        if sort == 0:
            return paper[:at] + paper[at + 1:]
        if sort == 1:
            return paper[:at] + paper[at:at + 1] + paper[at:]
        if sort == 2:
            return paper[:at] + paper[at + 1:] + paper[at:at + 1]
        if sort == 3:
            return paper[:at] + ((state, rank + rng.choice((1, -1, 2))),) + paper[at + 1:]
        if sort == 4:
            return tuple(sorted(paper + ((state, rank + rng.choice((1, 3))),)))
        if sort == 5:
            return tuple((other, more + 1) for other, more in paper)
        if len(state) == 0:
            return ((((1,),) if kind == "one" else (1,), rank),) + paper[1:] if sort == 6 else paper[1:]
        place = rng.randrange(len(state))
        if kind == "one":
            part = state[place] + rng.choice((1, -1))
        else:
            inner = rng.randrange(len(state[place]))
            part = state[place][:inner] + (state[place][inner] + rng.choice((1, -1)),) + state[place][inner + 1:]
            if sort == 6:
                part = rng.choice((state[place][1:], state[place] + (1,)))
        changed = (state[:place] + (part,) + state[place + 1:], rank)
        return tuple(sorted(paper[:at] + (changed,) + paper[at + 1:]))

    def test_better_states(self):
        # A state of the kind `many` may be left out if a better one has a lesser rank; for `one` it may not.
        parts = ("many", 6, 2, 1)
        paper = ranks_paper(*parts)
        number = dict(paper)[()]
        left_out = [self.judged(parts, number, paper[:at] + paper[at + 1:]) for at in range(len(paper))]
        self.assertEqual(left_out[0], False)
        self.assertIn(True, left_out)
        for parts in (("one", 5, 2, 1), ("one", 6, 2, 1)):
            paper = ranks_paper(*parts)
            number = dict(paper)[()]
            for at in range(len(paper)):
                self.assertFalse(self.judged(parts, number, paper[:at] + paper[at + 1:]))

    def test_other_states(self):
        # What is no state that can come may stand in the paper, if what it says is right.
        parts = ("many", 3, 2, 0)
        paper = ranks_paper(*parts)
        for state, rank, right in (((), 3, True), (((2,),), 1, True), (((2,),), 0, True), (((1,), (1, 1)), 0, False),
                                   (((1,), (2, 2)), 0, True), (((3,),), 1, False), (((0,),), 1, False), (((1,),), 5, True),
                                   (((1,), (2, 1), (2, 2, 1)), 0, False), ((1,), 0, False), (((1, 1),), 0, False),
                                   (((1,), (2,)), 0, False), (((1,), (2, 1)), -1, False), (((),), 0, False)):
            try:
                wrong = tuple(sorted(paper + ((state, rank),)))
            except TypeError:
                wrong = paper + ((state, rank),)
            self.assertIs(self.judged(parts, 2, wrong), right, (state, rank))
        for state, rank, right in (((0, 0), 0, False), ((2, 0), 0, False), ((1, 1), 0, False), ((0, -1), 0, False),
                                   ((1, 0, 0), 0, False), (((1,),), 0, False), ((1, 0), 1, True), ((1,), 5, False)):
            paper = ranks_paper("one", 3, 2, 0)
            try:
                wrong = tuple(sorted(paper + ((state, rank),)))
            except TypeError:
                wrong = paper + ((state, rank),)
            self.assertIs(self.judged(("one", 3, 2, 0), 2, wrong), right, (state, rank))

        # What is no state is refused also where no choice keeps so few pieces behind it.
        paper = ranks_paper("one", 4, 1, 0)
        self.assertEqual(paper, (((), 1), ((0,), 0)))
        for state, right in (((1, 0), True), ((0, 0), True), ((2, 0), False), ((1, -1), False), ((1, 1), False)):
            self.assertIs(self.judged(("one", 4, 1, 0), 1, tuple(sorted(paper + ((state, 0),)))), right, state)

    def test_no_paper_beside_a_rule(self):
        for parts in (("many", 2, 2, 0), ("many", 1, 1, 0), ("many", 4, 2, 1), ("one", 4, 2, 1)):
            replies = slow_met(*parts, 2000)
            for ranks in (0, 5):
                paper = tuple(sorted((state, ranks) for state in replies))
                self.assertFalse(self.judged(parts, 9, paper))
            self.assertFalse(self.judged(parts, 9, ()))

    def test_states_agree(self):
        for kind, window in (("many", 4), ("one", 4)):
            for choices in itertools.product([(), (2,), (3,), (2, 4)], repeat=4):
                state = state_after(kind, window, choices)
                self.assertEqual(state, slow_state(kind, window, choices))
                self.assertTrue(slow_is_state(kind, window, 4, state))


class GreatestTest(unittest.TestCase):
    def test_examples(self):
        self.assertEqual((greatest_window("many", 2, 1), greatest_window("one", 2, 1)), (5, 4))
        self.assertEqual((greatest_stamps(2, 1), greatest_log("many", 2, 1)), ((4, (2,)), 6))

    def told(self, ask, *parts):
        try:
            return ask(*parts)
        except TooLarge:
            return TooLarge

    def test_windows(self):
        seen = {}
        for kind in KINDS:
            for pieces, backs in ((1, 0), (1, 1), (1, 3), (2, 0), (2, 1), (2, 2), (3, 1), (6, 0), (6, 3)):
                wanted = 12
                for window in range(1, 13):
                    word = self.told(growth, kind, window, pieces, backs)
                    if word is TooLarge or word[0] == "none":
                        wanted = window - 1 if word is not TooLarge else TooLarge
                        break
                self.assertEqual(self.told(greatest_window, kind, pieces, backs), wanted)
                seen[wanted] = True
        self.assertIn(TooLarge, seen)
        self.assertGreater(len(seen), 4)

    def slow_log(self, kind, pieces, backs):
        """The greatest log, with the states of all logs so far by all that is stored; the window is the log's length."""
        layer, met = {(): ()}, 0
        for many in range(1, 13):
            met += len(layer)
            if met > 2000:
                return TooLarge
            behind = {}
            for choices in layer.values():
                for choice in slow_full_choices(kind, many, backs, many):
                    if most_pieces(kind, many, choices + (choice,)) <= pieces:
                        behind[slow_state(kind, many + 1, choices + (choice,))] = choices + (choice,)
                if len(behind) > 2000 and many < 12:
                    return TooLarge
            if not behind:
                return many - 1
            layer = behind
        return 12

    def test_logs(self):
        seen = {}
        for kind in KINDS:
            for pieces, backs in ((1, 0), (1, 1), (1, 3), (2, 0), (2, 1), (2, 2), (2, 3), (3, 0), (3, 1), (6, 0), (5, 1)):
                wanted = self.slow_log(kind, pieces, backs)
                self.assertEqual(self.told(greatest_log, kind, pieces, backs), wanted, (kind, pieces, backs))
                seen[wanted] = True
        self.assertIn(TooLarge, seen)
        self.assertGreater(len(seen), 6)

    def test_stamps(self):
        # The pieces are the least numbers of offsets, 1 among them, that make a sum.
        for pieces in range(1, 7):
            for backs in range(4):
                found = [(1, ())]
                for window in range(2, 13):
                    for many in range(backs + 1):
                        for choice in itertools.combinations(range(2, window + 1), many):
                            least = [0]
                            for total in range(1, window + 1):
                                least.append(1 + min(least[total - offset] for offset in (1,) + choice if offset <= total))
                            if max(least) <= pieces:
                                found.append((window, choice))
                window = max(window for window, _ in found)
                choice = min(choice for other, choice in found if other == window)
                self.assertEqual(greatest_stamps(pieces, backs), (window, choice))
                self.assertLessEqual(pieces_of("many", window, ((), (choice,))), pieces)

    def test_wrong(self):
        for kind, pieces, backs in (("both", 2, 1), ("many", 0, 1), ("many", 7, 1), ("one", 2, -1), ("one", 2, 4)):
            for ask in (greatest_window, greatest_log):
                with self.assertRaises(NotAllowed):
                    ask(kind, pieces, backs)
        for pieces, backs in ((0, 1), (7, 1), (2, -1), (2, 4)):
            with self.assertRaises(NotAllowed):
                greatest_stamps(pieces, backs)

    def test_asked_places(self):
        self.assertEqual([list(asked_places(3, y)) for y in (1, 2, 3, 4)], [[0], [0, 1], [0, 1, 2], [1, 2, 3]])


if __name__ == "__main__":
    unittest.main()
