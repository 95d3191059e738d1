"""Tests over the whole program: that its ways agree, that arguments stay, and that errors change nothing."""

import copy
import itertools
import random
import unittest

from scarp.askers import Answerer, Asker
from scarp.bounds import bound_of, judge_bound, weights_of
from scarp.builds import split_of
from scarp.cases import judge_few, least_stock, too_few
from scarp.edits import Line
from scarp.ends import count_slices, cutting, first_end, shortest
from scarp.errors import ScarpError, TooLarge
from scarp.games import judge_attack, judge_labeller, play_of
from scarp.green import both_classes, groups, idempotents, left_classes, right_classes
from scarp.growers import Grower
from scarp.growing import full_choices, most_needed, most_stored, pieces_of, state_after
from scarp.growths import growth, judge_ranks, judge_rule, ranks_paper
from scarp.guesses import least_for_all, sets_of
from scarp.index import Index
from scarp.joint import Panel, joint_table
from scarp.keepers import Keeper
from scarp.keeping import judge_kept, judge_lost, solve_keeping
from scarp.losses import best_stock, first_loss, total_of
from scarp.machines import lets, machine_of, room_behind
from scarp.papers import judge_enough, judge_more, read_split
from scarp.patterntexts import pattern_text, read_pattern
from scarp.players import Attack, Labeller
from scarp.questions import (answer_paper, fixed_questions, judge_answers, judge_questions, least_questions,
                             question_tree)
from scarp.schemes import cut_paper, judge_cuts, scheme_stock
from scarp.shelf import Shelf
from scarp.shortfalls import judge_shortfall, shortfall, split_with
from scarp.splits import classes_of, is_split
from scarp.stands import freest, possible, starts, step
from scarp.stocks import all_slices, open_slice, row_of
from scarp.store import Store
from scarp.storetexts import load_store
from scarp.tables import least_logs, let_by, paired, table_of, value_of
from scarp.trees import built, cut_at, joined, judge_tree
from scarp.unseen import count_logs, letters_at, log_at, values_between
from scarp.windows import Window, cost_of
from tests.samples import BRANDT, DROP, LEFT_ZERO, THREE_ROOMS, TURN, random_log, random_pattern, slow_lets

LETTERS = ("a", "b")
ANY_WAY = ((0, 0),)
ALLOWED = ((0, 2), (0, 3), (1, 3))


class AgreeTest(unittest.TestCase):
    """Each slice has one value, in whichever way it is asked for."""

    def patterns(self, seed, many):
        """Patterns with a machine, a table, and a joint table of it with one other."""
        rng = random.Random(seed)
        found = []
        while len(found) < many:
            pattern, other = (random_pattern(rng, LETTERS, rng.randint(1, 7)) for _ in range(2))
            try:
                machine, second = machine_of(LETTERS, pattern), machine_of(LETTERS, other)
                table = table_of(machine)
                joint_table(LETTERS, [machine, second])
            except TooLarge:
                continue
            found.append((rng, pattern, machine, other, second, table))
        return found

    def test_slices(self):
        for rng, pattern, machine, other, second, table in self.patterns(431, 25):
            log = random_log(rng, table, rng.randint(1, 30))
            wish = let_by(machine)
            ways = self.ways_of_values(rng, table, log)
            store = Store(LETTERS)
            number = store.read(pattern)
            store.read(other)
            store.append(log)
            panel = Panel(LETTERS, [second, machine], log)
            again = load_store(store.image())
            for first in range(len(log) + 1):
                for last in range(first, len(log) + 1):
                    row = log[first:last]
                    granted = lets(machine, row)
                    value = value_of(table, row)
                    self.assertEqual(value in wish, granted)
                    self.assertEqual([ask(first, last) for ask in ways], [value] * len(ways))
                    for told in (store.lets(number, first, last), again.lets(number, first, last),
                                 panel.lets(1, first, last)):
                        self.assertIs(told, granted)
            for row in itertools.islice((log[x:y] for x in range(len(log)) for y in range(x, min(x + 6, len(log)))), 30):
                self.assertEqual(slow_lets(pattern, row), lets(machine, row))

    def ways_of_values(self, rng, table, log):
        """Functions of two places that tell the value of a slice: by indexes, a shelf and a line."""
        split = split_of(table, log)
        stock = scheme_stock(len(log), rng.randint(2, 6))
        ways = [Index(table, "good", log, split).value, Index(table, "forward", log, split).value,
                Shelf(table, log, stock).value, Line(table, log).value]
        line = Line(table, log[::-1])
        for place, letter in enumerate(log):
            line.change(place, letter)
        ways.append(line.value)
        shelf = Shelf(table, (log[0],) * len(log), stock)
        for place, letter in enumerate(log):
            shelf.change(place, letter)
        ways.append(shelf.value)
        play = None
        for height in (1, 2, 3):
            try:
                play = play or self.labeller(table, height, log)
            except TooLarge:
                pass
        if play is not None:
            ways.append(Index(table, "forward", log, play).value)
        return ways

    def labeller(self, table, height, log):
        """A forward split that is written at once, None if there is no labeller."""
        answer = play_of(table, "forward", height, 0)
        if answer[0] != "labeller":
            return None
        labeller = Labeller(table, "forward", height, 0, *answer[1:])
        for letter in log:
            labeller.give(letter)
        return labeller.finish()

    def test_last_slices(self):
        # A log that grows, a window, and a keeper: what they tell is what the index of the whole log tells.
        rule = growth("many", 5, 2, 1)[1:]
        paper = solve_keeping(ANY_WAY, 5, 2, 0)[1]
        rng = random.Random(432)
        for table in (TURN, BRANDT, LEFT_ZERO, THREE_ROOMS):
            growers = [Grower(table, "many", 5, rule), Grower(table, "one", 4, growth("one", 4, 2, 1)[1:])]
            window, keeper = Window(table), Keeper(table, ANY_WAY, 5, 2, 0, paper)
            log = random_log(rng, table, 40)
            index = Index(table, "good", log, split_of(table, log))
            for y, letter in enumerate(log, 1):
                if y > 5:
                    self.assertEqual(window.pop(), log[y - 6])
                    keeper.pop()
                window.push(letter)
                keeper.push(letter)
                value = index.value(max(0, y - 5), y)
                self.assertEqual((window.value(), keeper.value()), (value, value))
                self.assertEqual(window.letters(), keeper.letters())
                for grower, wide in zip(growers, (5, 4)):
                    grower.append(letter)
                    for x in range(max(0, y - wide), y):
                        self.assertEqual(grower.value(x), index.value(x, y))

    def test_cuts_and_trees(self):
        # The value of a log that is cut into pieces is the product of the values of the pieces, wherever it is cut.
        rng = random.Random(433)
        for table in (TURN, BRANDT, THREE_ROOMS):
            log = random_log(rng, table, 25)
            tree = built(table, log)[0]
            for place in range(1, 25):
                ahead, behind, _ = cut_at(table, tree, place)
                self.assertEqual((ahead[0], behind[0]), (value_of(table, log[:place]), value_of(table, log[place:])))
                self.assertEqual(joined(table, ahead, behind)[0][0], value_of(table, log))

    def test_unseen_and_questions(self):
        # The logs that are left behind some answers are those that are possible by reports of the same.
        rng = random.Random(434)
        for table in (TURN, BRANDT, LEFT_ZERO):
            allowed = ((0, 2), (0, 4), (1, 3), (2, 4), (3, 5))
            for _ in range(10):
                log = random_log(rng, table, 5)
                some = tuple(span for span in allowed if rng.random() < 0.6)
                reports = tuple((x, y, value_of(table, log[x:y])) for x, y in some)
                left = [row for row in itertools.product(table[0], repeat=5)
                        if all(value_of(table, row[x:y]) == value for x, y, value in reports)]
                self.assertEqual(count_logs(table, 5, reports, 0), len(left))
                self.assertEqual([log_at(table, 5, reports, 0, at) for at in range(len(left))], left)

    def test_texts(self):
        for _, pattern, machine, _, _, _ in self.patterns(435, 30):
            self.assertEqual(machine_of(LETTERS, read_pattern(LETTERS, pattern_text(pattern))), machine)


def calls():
    """Functions with arguments for which they return something."""
    machine = machine_of(LETTERS, ("again", ("row", ("letter", "a"), ("letter", "b"))))
    table = table_of(machine)
    log = tuple("abbaabab")
    split = split_of(table, log)
    _, sets, moves = sets_of(DROP, "good", 2)
    _, begun, choices = play_of(DROP, "good", 2, 0)
    attack = play_of(DROP, "good", 1, 0)[1:]
    slices = all_slices(5)
    stock = ((0, 3), (0, 4), (1, 3), (1, 4))
    weights = ((0, 4, 2), (1, 3, 5))
    kept, lost = solve_keeping(ANY_WAY, 3, 1, 0)[1], solve_keeping(ANY_WAY, 4, 1, 0)[1]
    tree = built(table, log)[0]
    reports = ((0, 2, 0), (0, 4, 1), (1, 3, 1))
    asking = (TURN, 3, ALLOWED, (0, 1))
    return [
        (room_behind, machine, log), (least_logs, table), (let_by, machine), (paired, table, TURN),
        (joint_table, LETTERS, [machine, machine]), (both_classes, table), (left_classes, table), (right_classes, table),
        (groups, table), (idempotents, table), (bound_of, table), (weights_of, table),
        (judge_bound, TURN, bound_of(TURN)[0], bound_of(TURN)[1], weights_of(TURN)), (classes_of, split),
        (is_split, table, "good", log, split), (starts, 3), (step, DROP, "good", ((-1, -1), ()), "a", 2),
        (possible, DROP, "good", ((-1, -1), ()), "a"), (freest, starts(2) + starts(2)),
        (split_with, table, "good", log, 3), (shortfall, DROP, "good", ("a",), 1),
        (judge_shortfall, DROP, "good", ("a",), 1, [[((-1, -1),)], []]),
        (first_end, table, log, (0, 1), 0), (count_slices, table, log, (0,)), (cutting, table, log, (0, 1)),
        (shortest, table, log, (1,)), (least_for_all, DROP, "good"), (judge_enough, DROP, "good", 2, sets, moves),
        (judge_more, DROP, "good", 1, ("a",), ((((-1, -1),),), ())), (read_split, DROP, "good", ("a", "a"), sets, moves),
        (judge_labeller, DROP, "good", 2, 0, begun, choices), (judge_attack, DROP, "good", 1, 0) + attack,
        (row_of, 4, stock, (0, 4)), (open_slice, 5, 2, slices, ()), (least_stock, 5, 2, slices),
        (too_few, 5, 2, slices, 1), (judge_few, 5, 2, slices, 1, too_few(5, 2, slices, 1)), (scheme_stock, 9, 2),
        (judge_cuts, 9, 6, cut_paper(9)), (first_loss, 4, 2, all_slices(4), stock, 1), (total_of, 4, stock, weights),
        (best_stock, 4, 1, weights), (full_choices, "one", 4, 2, 3), (state_after, "many", 4, ((), (2,), (3,))),
        (pieces_of, "one", 4, (((),), ((3,),))), (most_stored, "one", 4, (((),), ((3,),))),
        (most_needed, 4, (((),), ((3,),))), (growth, "many", 5, 2, 1), (ranks_paper, "one", 5, 2, 1),
        (judge_rule, "many", 4, 2, 1, ((), ((3,),))),
        (judge_ranks, "one", 5, 2, 1, 9, ranks_paper("one", 5, 2, 1)), (cost_of, ["in", "in", "out", "ask"]),
        (judge_kept, ANY_WAY, 3, 1, 0, kept), (judge_lost, ANY_WAY, 4, 1, 0, lost), (solve_keeping, ANY_WAY, 3, 1, 0),
        (cut_at, table, tree, 3), (joined, table, tree, tree[1]), (judge_tree, table, log, tree),
        (count_logs, TURN, 4, reports, 1), (letters_at, TURN, 4, reports, 0, 3), (values_between, TURN, 4, reports, 0, 0, 1),
        (least_questions,) + asking, (question_tree,) + asking + (2,), (answer_paper,) + asking + (1,),
        (judge_questions,) + asking + (2, question_tree(*asking, 2)),
        (judge_answers,) + asking + (1, answer_paper(*asking, 1)), (fixed_questions,) + asking,
    ]


def spoil(value):
    """Empty all lists within a value."""
    if isinstance(value, (list, tuple)):
        for part in value:
            spoil(part)
    if isinstance(value, list):
        value.clear()


class ArgumentsTest(unittest.TestCase):
    def test_arguments_stay(self):
        for ask, *parts in calls():
            before = copy.deepcopy(parts)
            first = ask(*parts)
            self.assertEqual(parts, before, ask.__name__)
            # What is returned is new each time: spoiling it has no effect, nor has spoiling what was handed over.
            told = copy.deepcopy(first)
            spoil(first)
            self.assertEqual(parts, before, ask.__name__)
            self.assertEqual(ask(*copy.deepcopy(before)), told, ask.__name__)

    def test_lists_are_not_kept(self):
        machines = [machine_of(LETTERS, ("letter", "a")), machine_of(LETTERS, ("any",))]
        panel = Panel(LETTERS, machines, tuple("abab"))
        before = [panel.lets(number, 0, 1) for number in (0, 1)]
        machines.clear()
        self.assertEqual([panel.lets(number, 0, 1) for number in (0, 1)], before)

    def test_kinds_of_results(self):
        for ask, *parts in calls():
            value = ask(*parts)
            if ask.__name__.startswith(("judge", "check")):
                self.assertIsNone(value)
            self.assertNotIsInstance(value, (set, dict, float))


class Machinery:
    """Objects of the program with random calls, right and wrong ones, and all that can be seen of them."""

    def __init__(self, rng):
        self.rng = rng
        tree, paper = (TURN, 3, ALLOWED, (0, 1)), ((0, 2), (0, 3), (1, 3), (0, 1), (3, 0))
        attack = play_of(BRANDT, "good", 1, 0)[1:]
        steady = play_of(LEFT_ZERO, "forward", 1, 0)[1:]
        letter = lambda: rng.choice(("a", "b", "c"))
        place = lambda: rng.randint(-1, 7)
        two = lambda: (place(), place())
        store = Store(LETTERS)
        patterns = (("letter", "a"), ("any",), ("row", ("letter", "b"), ("letter", "b")), ("again", ("any",)), ("both",),
                    ("letter", "c"))
        self.things = [
            (store, {"read": lambda: (rng.choice(patterns),), "bar": lambda: (rng.choice(patterns),),
                     "forget": lambda: (place(),), "allow": lambda: (place(),), "cut": lambda: (place(),),
                     "append": lambda: (tuple(letter() for _ in range(rng.randint(0, 2))),), "undo": tuple},
             lambda: (store.image(), store.levels(), store.changes(), store.table())),
            self.seen(Shelf(TURN, tuple("abba"), ((0, 3), (1, 4))), {"value": two, "pieces": two,
                      "change": lambda: (place(), letter())}, ("log", "stock", "products")),
            self.seen(Grower(TURN, "many", 3, (((),) * 9, ())), {"append": lambda: (letter(),), "value": lambda: (place(),),
                      "pieces": lambda: (place(),)}, ("place", "kept", "products")),
            self.seen(Window(TURN), {"push": lambda: (letter(),), "pop": tuple, "value": tuple},
                      ("letters", "stored", "made")),
            self.seen(Keeper(TURN, ANY_WAY, 3, 1, 0, solve_keeping(ANY_WAY, 3, 1, 0)[1]), {"push": lambda: (letter(),),
                      "pop": tuple, "value": tuple}, ("letters", "state", "made")),
            self.seen(Line(TURN, tuple("abb")), {"put": lambda: (place(), letter()), "take": lambda: (place(),),
                      "change": lambda: (place(), letter()), "move": lambda: (place(), place(), place()), "back": tuple,
                      "pieces": two, "value": two}, ("log", "tree", "made")),
            self.seen(Asker(*tree, 2, question_tree(*tree, 2)), {"answer": lambda: (place(),), "question": tuple,
                      "told": tuple, "back": tuple}, ("asked",)),
            self.seen(Answerer(*tree, 1, answer_paper(*tree, 1)), {"answer": lambda: (rng.choice(paper),), "two": tuple,
                      "back": tuple}, ("asked",)),
            self.seen(Labeller(LEFT_ZERO, "forward", 1, 0, *steady), {"give": lambda: (letter(),), "back": tuple},
                      ("levels", "log", "finish")),
            self.seen(Attack(BRANDT, "good", 1, 0, *attack), {"answer": lambda: (rng.randint(-1, 3),)},
                      ("letters", "levels", "options")),
        ]

    def seen(self, thing, methods, told):
        return thing, methods, lambda: [getattr(thing, name)() for name in told]


class ErrorsTest(unittest.TestCase):
    def test_errors_change_nothing(self):
        rng = random.Random(441)
        for thing, methods, told in Machinery(rng).things:
            results = {True: 0, False: 0}
            for _ in range(300):
                name = rng.choice(sorted(methods))
                parts = methods[name]()
                before = told()
                try:
                    getattr(thing, name)(*parts)
                    results[True] += 1
                except ScarpError:
                    self.assertEqual(told(), before, (thing, name, parts))
                    results[False] += 1
            self.assertGreater(min(results.values()), 0, (thing, results))

    def test_one_mistake_does_not_spoil_the_next_call(self):
        # The same calls, with wrong ones between them, lead to the same.
        for seed in range(5):
            plain, mixed = Line(TURN, ()), Line(TURN, ())
            rng = random.Random(seed)
            for _ in range(30):
                place, letter = rng.randint(0, len(plain.log())), rng.choice("ab")
                plain.put(place, letter)
                for wrong in (lambda: mixed.put(-1, "a"), lambda: mixed.put(0, "c"), lambda: mixed.take(99),
                              lambda: mixed.move(0, 99, 0)):
                    with self.assertRaises(ScarpError):
                        wrong()
                mixed.put(place, letter)
            self.assertEqual((plain.tree(), plain.made()), (mixed.tree(), mixed.made()))


if __name__ == "__main__":
    unittest.main()
