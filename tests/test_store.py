"""Tests of scarp.store: [7.1] to [7.5]."""

import random
import unittest

from scarp import store as module
from scarp.bounds import bound_of
from scarp.errors import Broken, Missing, NotAllowed, TooLarge
from scarp.games import play_of
from scarp.joint import joint_table
from scarp.machines import lets, machine_of
from scarp.patterntexts import pattern_text, read_pattern
from scarp.splits import height_of, judge_split
from scarp.store import Store
from scarp.storetexts import load_store
from scarp.tables import value_of
from tests.samples import random_pattern, slow_lets

AB = ("a", "b")


def pattern(text, letters=AB):
    """The pattern of a text."""
    return read_pattern(letters, text)


def cycle(letter, many):
    """A pattern that lets rows of a letter by whose length so many goes into."""
    return pattern("again (" + " ".join([letter] * many) + ")")


class Model:
    """A store in the words of the document: lists that are copied ahead of each change."""

    def __init__(self, letters):
        self.letters = letters
        self.state = {"log": (), "read": {}, "bar": {}, "next": {"read": 1, "bar": 1}}
        self.past = []

    def change(self, **parts):
        self.past.append(self.state)
        self.state = {**self.state, **parts}

    def barred(self, log, bars):
        for end in range(len(log) + 1):
            for start in range(end + 1):
                for number in sorted(bars):
                    if slow_lets(bars[number], log[start:end]):
                        return (number, start, end)
        return None

    def table(self, read, bar):
        inner = [read[number] for number in sorted(read)] + [bar[number] for number in sorted(bar)]
        return joint_table(self.letters, [machine_of(self.letters, p) for p in inner])

    def put(self, kind, new):
        number = self.state["next"][kind]
        parts = {"read": dict(self.state["read"]), "bar": dict(self.state["bar"])}
        if len(parts["read"]) + len(parts["bar"]) == 4:
            raise TooLarge
        parts[kind][number] = new
        self.table(parts["read"], parts["bar"])
        if kind == "bar":
            self.check(self.state["log"], parts["bar"])
        self.change(**parts, next={**self.state["next"], kind: number + 1})
        return number

    def take(self, kind, number):
        if number not in self.state[kind]:
            raise Missing
        self.change(**{kind: {key: value for key, value in self.state[kind].items() if key != number}})

    def check(self, log, bars):
        found = self.barred(log, bars)
        if found is not None:
            raise Broken(*found)

    def append(self, letters):
        log = self.state["log"] + letters
        if any(letter not in self.letters for letter in letters):
            raise NotAllowed
        if len(log) > 400:
            raise TooLarge
        self.check(log, self.state["bar"])
        self.change(log=log)
        return len(log)

    def cut(self, size):
        if not 0 <= size <= len(self.state["log"]):
            raise NotAllowed
        self.change(log=self.state["log"][:size])

    def undo(self):
        if not self.past:
            raise Missing
        self.state = self.past.pop()


class StoreTest(unittest.TestCase):
    def state_of(self, store):
        """All that can be asked of a store."""
        told = (store.letters(), store.log(), store.readers(), store.bars(), store.table(), store.levels())
        return told + (store.steady(), store.changes(), store.image())

    def refused(self, store, error, action, *parts):
        """An action raises just this error, and changes nothing."""
        before = self.state_of(store)
        with self.assertRaises(error) as caught:
            action(*parts)
        self.assertIs(type(caught.exception), error)
        self.assertEqual(self.state_of(store), before)
        return caught.exception

    def broken(self, store, wanted, action, *parts):
        """An action is refused with these numbers."""
        error = self.refused(store, Broken, action, *parts)
        self.assertEqual((error.number, error.start, error.end), wanted)

    def split_holds(self, store):
        """The store's split is of its kind, and not too high."""
        table, log, split = store.table(), store.log(), store.levels()
        if store.steady():
            judge_split(table, "forward", log, store.steady(), split)
        else:
            judge_split(table, "good", log, bound_of(table)[0], split)

    def test_constants(self):
        self.assertEqual((module.MAX_NUMBER, module.MAX_STEADY, module.MAX_IMAGE), (999999, 3, 9000))

    def test_example(self):
        letters = ("up", "down")
        store = Store(letters)
        told = (store.read(pattern("again (up down)", letters)), store.bar(pattern("down down", letters)))
        self.assertEqual(told, (1, 1))
        self.assertEqual(store.append(("up", "down", "up")), 3)
        self.broken(store, (1, 3, 5), store.append, ("down", "down"))
        self.assertEqual((store.lets(1, 0, 2), store.lets(1, 1, 3), store.log()), (True, False, ("up", "down", "up")))
        image = "store 2 2\nletter up\nletter down\nread 1 again (up down)\nbar 1 down down\nlog up down up\n"
        self.assertEqual(store.image(), image)

    def test_new_store(self):
        store = Store(AB)
        self.assertEqual((store.letters(), store.log(), store.readers(), store.bars(), store.changes()), (AB, (), [], [], 0))
        self.assertEqual((store.table(), store.steady()), ((AB, (0, 0), ((0,),)), 1))
        self.assertEqual((store.levels(), store.pieces(0, 0), store.image()), ((1,), [], "store 1 1\nletter a\nletter b\nlog\n"))
        self.refused(store, Missing, store.undo)
        for letters in ((), ("a", "a"), ("any",), ("A",), ("a", "b", "c", "d", "e"), ("",), ("abcdefghi",)):
            with self.assertRaises(NotAllowed):
                Store(letters)

    def test_numbers(self):
        store = Store(AB)
        self.assertEqual([store.read(pattern("a")), store.bar(pattern("b b")), store.read(pattern("b"))], [1, 1, 2])
        store.forget(1)
        store.allow(1)
        self.assertEqual((store.readers(), store.bars()), ([(2, pattern("b"))], []))
        self.assertEqual([store.read(pattern("a")), store.bar(pattern("b b"))], [3, 2])
        # A number that was given comes again only if the change that gave it is taken back.
        store.undo()
        store.undo()
        self.assertEqual([store.bar(pattern("a a")), store.read(pattern("a"))], [2, 3])
        store.readers().clear()
        store.bars().clear()
        self.assertEqual(([number for number, _ in store.readers()], len(store.bars())), ([2, 3], 1))

    def test_last_number(self):
        store = load_store("store 999999 999999\nletter a\nread 999998 a\nlog a\n")
        self.assertEqual((store.read(pattern("any", ("a",))), store.bar(pattern("a a", ("a",)))), (999999, 999999))
        self.refused(store, TooLarge, store.read, pattern("a", ("a",)))
        self.refused(store, TooLarge, store.bar, pattern("a a a", ("a",)))
        self.assertEqual(store.image().split("\n")[0], "store 1000000 1000000")
        store.undo()
        self.assertEqual(store.bar(pattern("a a a", ("a",))), 999999)
        store.forget(999999)
        self.refused(store, TooLarge, store.read, pattern("a", ("a",)))

    def test_four_patterns(self):
        store = Store(AB)
        for text in ("a", "b", "a a"):
            store.read(pattern(text))
        store.bar(pattern("b b b"))
        self.refused(store, TooLarge, store.read, pattern("a"))
        self.refused(store, TooLarge, store.bar, pattern("a"))
        # What is no pattern is told first; a fifth one ahead of what it would bar.
        self.refused(store, NotAllowed, store.read, ("letter", "c"))
        store.append(("a",))
        self.refused(store, TooLarge, store.bar, pattern("a"))
        store.forget(2)
        self.broken(store, (2, 0, 1), store.bar, pattern("a"))
        self.assertEqual(store.read(pattern("b b")), 4)

    def test_wrong_patterns(self):
        store = Store(AB)
        deep = ("any",)
        for _ in range(30):
            deep = ("not", deep)
        for wrong in (("letter", "c"), ("letter",), (), "any", ("some",), ("any", ("any",)), ("row", ("any",)), deep):
            self.refused(store, NotAllowed, store.read, wrong)
            self.refused(store, NotAllowed, store.bar, wrong)
        self.assertEqual(store.read(deep[1]), 1)

    def test_too_large(self):
        store = Store(AB)
        self.refused(store, TooLarge, store.read, cycle("a", 9))
        self.refused(store, TooLarge, store.bar, cycle("a", 9))
        one = ("a",)
        store = Store(one)
        store.read(cycle("a", 6))
        store.read(cycle("a", 5))
        self.assertEqual(len(store.table()[2]), 30)
        self.refused(store, TooLarge, store.read, cycle("a", 4))
        # A pattern that would bar a slice, too: that there is no joint table is told first.
        self.refused(store, TooLarge, store.bar, cycle("a", 4))
        self.assertEqual((store.read(cycle("a", 3)), len(store.table()[2])), (3, 30))
        self.broken(store, (1, 0, 0), store.bar, cycle("a", 2))

    def test_table(self):
        store = Store(AB)
        store.read(pattern("again (a b)"))
        store.bar(pattern("b b b"))
        store.read(pattern("not a"))
        machines = [machine_of(AB, pattern(text)) for text in ("again (a b)", "not a", "b b b")]
        table, wishes = joint_table(AB, machines)
        self.assertEqual((store.table(), store.wish(1), store.wish(2)), (table, wishes[0], wishes[1]))
        store.forget(1)
        table, wishes = joint_table(AB, machines[1:])
        self.assertEqual((store.table(), store.wish(2)), (table, wishes[0]))
        for number in (0, 1, 3, -1):
            with self.assertRaises(Missing):
                store.wish(number)
        store.forget(2)
        store.allow(1)
        self.assertEqual(store.table(), (AB, (0, 0), ((0,),)))

    def test_lets(self):
        rng = random.Random(171)
        for _ in range(25):
            store = Store(AB)
            patterns = {}
            for _ in range(3):
                new = random_pattern(rng, AB, rng.randint(1, 6))
                try:
                    patterns[store.read(new)] = new
                except TooLarge:
                    pass
            log = tuple(rng.choice(AB) for _ in range(7))
            store.append(log)
            self.split_holds(store)
            for number, told in patterns.items():
                for end in range(8):
                    for start in range(end + 1):
                        self.assertIs(store.lets(number, start, end), slow_lets(told, log[start:end]))
            for start, end in ((-1, 2), (0, 8), (3, 2), (8, 8)):
                for number in patterns:
                    with self.assertRaises(NotAllowed):
                        store.lets(number, start, end)
                with self.assertRaises(NotAllowed):
                    store.pieces(start, end)
                with self.assertRaises(Missing):
                    store.lets(77, start, end)

    def test_barred_patterns_are_not_read(self):
        store = Store(AB)
        store.bar(pattern("b b"))
        with self.assertRaises(Missing):
            store.lets(1, 0, 0)
        with self.assertRaises(Missing):
            store.wish(1)
        self.refused(store, Missing, store.forget, 1)
        store.read(pattern("a"))
        store.allow(1)
        self.refused(store, Missing, store.allow, 1)
        self.assertEqual(store.lets(1, 0, 0), False)

    def test_broken(self):
        store = Store(AB)
        for text in ("empty", "again a", "not b", "not (a b)"):
            self.broken(store, (1, 0, 0), store.bar, pattern(text))
        self.assertEqual(store.bar(pattern("b b")), 1)
        self.assertEqual(store.bar(pattern("a (again any) b b")), 2)
        self.assertEqual(store.bar(pattern("a a a")), 3)
        store.append(("a", "b"))
        # Of all barred slices the one that ends first, then the one that begins first, then the least number.
        self.broken(store, (2, 0, 3), store.append, ("b", "b"))
        self.broken(store, (3, 2, 5), store.append, ("a", "a", "a", "b", "b"))
        self.broken(store, (4, 0, 1), store.bar, pattern("a or b"))
        self.broken(store, (4, 1, 2), store.bar, pattern("b"))
        self.assertEqual(store.append(()), 2)
        self.assertEqual(store.append(("a", "a")), 4)
        self.broken(store, (3, 2, 5), store.append, ("a",))
        store.allow(3)
        self.assertEqual(store.append(("a",)), 5)
        self.broken(store, (4, 2, 5), store.bar, pattern("a a a"))
        store.allow(2)
        self.broken(store, (1, 5, 7), store.append, ("b", "b"))

    def test_two_bar_the_same(self):
        store = Store(AB)
        store.bar(pattern("b b"))
        store.bar(pattern("b (a or b)"))
        store.bar(pattern("b any"))
        self.broken(store, (1, 0, 2), store.append, ("b", "b"))
        self.broken(store, (2, 0, 2), store.append, ("b", "a"))
        store.allow(1)
        self.broken(store, (2, 0, 2), store.append, ("b", "b"))

    def test_append_errors(self):
        store = Store(AB)
        store.bar(pattern("b b"))
        self.refused(store, NotAllowed, store.append, ("a", "c"))
        self.refused(store, NotAllowed, store.append, ("b", "b", "c"))
        self.refused(store, NotAllowed, store.append, ("c",) * 401)
        self.refused(store, TooLarge, store.append, ("b",) * 401)
        self.assertEqual(store.append(("a",) * 399), 399)
        self.assertEqual(store.append(("b",)), 400)
        self.refused(store, TooLarge, store.append, ("a",))
        self.refused(store, TooLarge, store.append, ("b",))
        self.assertEqual(store.append(()), 400)
        self.assertEqual(store.changes(), 4)
        self.split_holds(store)

    def test_extend(self):
        store, other = Store(AB), Store(AB)
        store.bar(pattern("b b"))
        other.append(("b", "a", "b"))
        self.assertEqual(store.extend(other), 3)
        self.broken(store, (1, 2, 4), store.extend, other)
        self.broken(store, (1, 2, 4), store.extend, store)
        self.assertEqual(store.append(("a",)), 4)
        changes = store.changes()
        self.assertEqual((store.extend(store), store.changes()), (8, changes + 1))
        self.assertEqual(store.log(), ("b", "a", "b", "a") * 2)
        self.assertEqual((other.log(), other.changes()), (("b", "a", "b"), 1))
        store.undo()
        self.assertEqual(store.log(), ("b", "a", "b", "a"))
        self.assertEqual((store.extend(Store(AB)), store.changes()), (4, changes + 1))
        for letters in (("b", "a"), ("a",), ("a", "b", "c"), ("a", "c")):
            self.refused(store, NotAllowed, store.extend, Store(letters))
        large = Store(AB)
        large.append(("a",) * 201)
        self.refused(large, TooLarge, large.extend, large)

    def test_cut(self):
        store = Store(AB)
        store.append(("a", "b", "a"))
        for size in (-1, 4, 400):
            self.refused(store, NotAllowed, store.cut, size)
        self.assertIsNone(store.cut(3))
        self.assertEqual((store.log(), store.changes()), (("a", "b", "a"), 2))
        store.cut(1)
        self.assertEqual(store.log(), ("a",))
        store.cut(0)
        self.assertEqual((store.log(), store.levels(), store.changes()), ((), (1,), 4))
        self.refused(store, NotAllowed, store.cut, 1)
        store.cut(0)
        self.assertEqual(store.changes(), 5)

    def test_steady(self):
        told = {}
        rng = random.Random(172)
        texts = ["again (a b)", "a (again b)", "again (a a)", "a", "any any", "(again any) a a a", "again (a a a a a)"]
        found = [pattern(text) for text in texts] + [random_pattern(rng, AB, rng.randint(2, 12)) for _ in range(40)]
        for new in found:
            store = Store(AB)
            try:
                store.read(new)
            except TooLarge:
                continue
            wanted = 0
            for height in (1, 2, 3):
                try:
                    word = play_of(store.table(), "forward", height, 0)[0]
                except TooLarge:
                    break
                if word == "labeller":
                    wanted = height
                    break
            self.assertEqual(store.steady(), wanted)
            told[wanted] = told.get(wanted, 0) + 1
            self.splits_stay(store, rng, wanted)
        self.assertEqual(sorted(told), [0, 1, 2, 3])

    def test_steady_at_no_greater_height(self):
        # Four levels could be written at once, but three cannot.
        store = Store(("a",))
        store.read(cycle("a", 5))
        words = [play_of(store.table(), "forward", height, 0)[0] for height in (1, 2, 3, 4)]
        self.assertEqual((words, store.steady()), (["attack", "attack", "attack", "labeller"], 0))
        store.append(("a",) * 30)
        judge_split(store.table(), "good", store.log(), 5, store.levels())

    def splits_stay(self, store, rng, steady):
        """The split holds; if the store is steady, the levels that are there stay."""
        splits = {}
        for _ in range(12):
            before = store.levels()
            if rng.random() < 0.3 and store.log():
                store.cut(rng.randrange(len(store.log())))
            else:
                store.append(tuple(rng.choice(AB) for _ in range(rng.randint(0, 9))))
            self.split_holds(store)
            both = min(len(before), len(store.levels()))
            if steady:
                self.assertEqual(store.levels()[:both], before[:both])
            self.assertEqual(store.levels(), splits.setdefault(store.log(), store.levels()))
            self.assertLessEqual(len(store.pieces(0, len(store.log()))), 2 * height_of(store.levels()) - 1)

    def test_pieces(self):
        store = Store(AB)
        store.read(pattern("(again any) a a a"))
        log = ("a", "b", "a", "a", "a", "b", "b", "a") * 3
        store.append(log)
        for end in range(len(log) + 1):
            for start in range(end + 1):
                pieces = store.pieces(start, end)
                places = [start] + [last for _, last, _ in pieces]
                self.assertEqual(([first for first, _, _ in pieces], places[-1]), (places[:-1], end))
                self.assertLessEqual(len(pieces), 2 * height_of(store.levels()) - 1)
                for first, last, value in pieces:
                    self.assertEqual(value, value_of(store.table(), log[first:last]))
                pieces.clear()

    def test_asking_changes_nothing(self):
        # Two stores with the same changes have the same split, whatever was asked of them.
        rng = random.Random(173)
        first, second = Store(AB), Store(AB)
        for new in ("again (a a a a a)", "(again any) a a a", "a (again b)"):
            first.read(pattern(new))
            second.read(pattern(new))
            for _ in range(6):
                letters = tuple(rng.choice(AB) for _ in range(rng.randint(0, 7)))
                first.append(letters)
                second.append(letters)
                first.levels()
                first.steady()
                first.pieces(0, len(first.log()))
                first.lets(1, 0, len(first.log()))
            self.assertEqual(first.levels(), second.levels())

    def test_undo(self):
        store = Store(AB)
        states = []
        rng = random.Random(174)
        while store.changes() < 200:
            states.append(self.state_of(store))
            count = store.changes()
            try:
                self.some_change(store, rng)
            except (Broken, Missing, NotAllowed, TooLarge):
                pass
            if store.changes() == count:
                self.assertEqual(self.state_of(store), states.pop())
            else:
                self.assertEqual(store.changes(), count + 1)
        while states:
            self.assertIsNone(store.undo())
            self.assertEqual(self.state_of(store), states.pop())
        self.refused(store, Missing, store.undo)
        self.assertEqual(self.state_of(store), self.state_of(Store(AB)))

    def some_change(self, store, rng):
        """Some change, which may be refused."""
        sort = rng.randrange(12)
        numbers = [number for number, _ in store.readers() + store.bars()] + [7]
        if sort < 2:
            return store.read(random_pattern(rng, AB, rng.randint(1, 5)))
        if sort < 4:
            return store.bar(("row", random_pattern(rng, AB, rng.randint(1, 4)), ("any",)))
        if sort == 4:
            return store.forget(rng.choice(numbers))
        if sort == 5:
            return store.allow(rng.choice(numbers))
        if sort == 6:
            return store.cut(rng.randint(0, len(store.log())))
        if sort == 7 and len(store.log()) < 6:
            return store.extend(store)
        return store.append(tuple(rng.choice(AB) for _ in range(rng.randint(0, 3))))

    def test_against_model(self):
        rng = random.Random(175)
        errors = {}
        for _ in range(20):
            store, model = Store(AB), Model(AB)
            for _ in range(25):
                sort = rng.choice(("read", "bar", "bar", "forget", "allow", "append", "append", "append", "cut", "undo"))
                new = random_pattern(rng, AB, rng.randint(1, 5))
                number = rng.randint(0, 4)
                letters = tuple(rng.choice(("a", "a", "a", "b", "b", "b", "c")) for _ in range(rng.randint(0, 3)))
                size = rng.randint(0, len(model.state["log"]) + 1)
                actions = {
                    "read": (lambda: store.read(new), lambda: model.put("read", new)),
                    "bar": (lambda: store.bar(new), lambda: model.put("bar", new)),
                    "forget": (lambda: store.forget(number), lambda: model.take("read", number)),
                    "allow": (lambda: store.allow(number), lambda: model.take("bar", number)),
                    "append": (lambda: store.append(letters), lambda: model.append(letters)),
                    "cut": (lambda: store.cut(size), lambda: model.cut(size)),
                    "undo": (store.undo, model.undo),
                }
                told = [self.outcome(action) for action in actions[sort]]
                self.assertEqual(told[0], told[1], sort)
                errors[told[0][0]] = True
                self.same(store, model)
        for name in ("Broken", "Missing", "NotAllowed", "TooLarge", "fine"):
            self.assertIn(name, errors)

    def outcome(self, action):
        try:
            return ("fine", action())
        except Broken as error:
            return ("Broken", (error.number, error.start, error.end))
        except (Missing, NotAllowed, TooLarge) as error:
            return (type(error).__name__, None)

    def same(self, store, model):
        state = model.state
        self.assertEqual((store.log(), store.changes()), (state["log"], len(model.past)))
        self.assertEqual(store.readers(), sorted(state["read"].items()))
        self.assertEqual(store.bars(), sorted(state["bar"].items()))
        table, wishes = model.table(state["read"], state["bar"])
        self.assertEqual(store.table(), table)
        self.assertEqual([store.wish(number) for number in sorted(state["read"])], list(wishes[:len(state["read"])]))
        self.split_holds(store)
        lines = [f"store {state['next']['read']} {state['next']['bar']}", "letter a", "letter b"]
        for kind in ("read", "bar"):
            lines += [f"{kind} {number} {pattern_text(p)}" for number, p in sorted(state[kind].items())]
        self.assertEqual(store.image(), "\n".join(lines + [" ".join(("log",) + state["log"])]) + "\n")

    def test_long_log(self):
        rng = random.Random(176)
        store = Store(AB)
        store.read(pattern("again (a a a a a)"))
        store.read(pattern("(again any) a a"))
        store.append(tuple(rng.choice(AB) for _ in range(400)))
        self.split_holds(store)
        machine = machine_of(AB, pattern("(again any) a a"))
        for _ in range(60):
            start, end = sorted((rng.randint(0, 400), rng.randint(0, 400)))
            self.assertIs(store.lets(2, start, end), lets(machine, store.log()[start:end]))


if __name__ == "__main__":
    unittest.main()
