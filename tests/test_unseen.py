"""Tests of scarp.unseen: [12.1] and [12.2]."""

import itertools
import random
import unittest

from scarp import unseen
from scarp.errors import Missing, NotAllowed, TooLarge
from scarp.unseen import check_reports, count_logs, letters_at, log_at, values_between
from tests.samples import (BRANDT, LEFT_ZERO, THREE_ROOMS, TRIVIAL, TURN, logs_up_to, power_table, random_tables,
                           slow_value)

# Reports over THREE_ROOMS, wrong ones, and how many rows are held at most; found by trying.
HELD = (
    (9, ((0, 5, 26), (0, 8, 16), (3, 9, 25)), 2, 200),
    (9, ((0, 3, 25), (0, 9, 6), (1, 6, 18), (2, 8, 26), (5, 7, 7), (5, 8, 10), (6, 7, 7)), 2, 201),
    (9, ((1, 8, 4), (3, 7, 17), (3, 9, 4), (6, 9, 23)), 1, 201),
    (10, ((0, 8, 21), (2, 8, 3), (5, 7, 6), (6, 8, 4)), 0, 201),
)


def slow_possible(table, n, reports, wrong):
    """The list of the possible logs, in order, by all logs."""
    logs = [log for log in logs_up_to(table[0], n) if len(log) == n]
    return [log for log in logs if sum(slow_value(table, log[x:y]) != value for x, y, value in reports) <= wrong]


def slow_held(table, n, reports, wrong, asked=()):
    """The greatest number of rows that can come at a place, by all rows at each place."""
    spans = list(reports) + [(x, y, None) for x, y in asked]
    rows, most = {((), 0)}, 1
    for place in range(n):
        behind = set()
        for (held, bad), letter in itertools.product(rows, table[0]):
            values, more = dict(held), bad
            for at, (x, y, told) in enumerate(spans):
                if x <= place < y:
                    element = slow_value(table, (letter,))
                    values[at] = element if x == place else table[2][values[at]][element]
                    if y == place + 1:
                        value = values.pop(at)
                        more += told is not None and value != told
            if more <= wrong:
                behind.add((tuple(sorted(values.items())), more))
        rows, most = behind, max(most, len(behind))
    return most


def random_reports(rng, table, n, most):
    """Some reports; most of them hold for one log."""
    log = [rng.choice(table[0]) for _ in range(n)]
    spans = sorted({tuple(sorted(rng.sample(range(n + 1), 2))) for _ in range(rng.randint(0, most))})
    return tuple((x, y, slow_value(table, log[x:y]) if rng.random() < 0.8 else rng.randrange(len(table[2])))
                 for x, y in spans)


class ReportsTest(unittest.TestCase):
    def test_constants(self):
        self.assertEqual((unseen.MAX_HIDDEN, unseen.MAX_REPORTS, unseen.MAX_WRONG, unseen.MAX_HELD), (40, 40, 2, 200))

    def test_reports(self):
        many = tuple((x, x + 1, 0) for x in range(40))
        for n, reports in ((1, ()), (40, ()), (1, ((0, 1, 1),)), (4, ((0, 2, 0), (0, 4, 1), (1, 3, 1))), (40, many)):
            self.assertIsNone(check_reports(TURN, n, reports))
        for n, reports in ((0, ()), (41, ()), (-1, ()), (4, ((0, 5, 0),)), (4, ((-1, 2, 0),)), (4, ((2, 2, 0),)),
                           (4, ((3, 1, 0),)), (4, ((0, 2, 2),)), (4, ((0, 2, -1),)), (4, ((0, 2, 0), (0, 2, 0))),
                           (4, ((0, 2, 0), (0, 2, 1))), (4, ((0, 4, 0), (0, 2, 1))), (4, ((1, 2, 0), (0, 2, 1))),
                           (40, ((0, 2, 0),) + many), (40, many[:39] + ((38, 40, 0), (39, 40, 0)))):
            with self.assertRaises(NotAllowed, msg=(n, reports)):
                check_reports(TURN, n, reports)

    def test_values(self):
        for table in (BRANDT, TRIVIAL, THREE_ROOMS):
            many = len(table[2])
            self.assertIsNone(check_reports(table, 3, ((0, 2, 0), (0, 3, many - 1))))
            for value in (-1, many, many + 1):
                with self.assertRaises(NotAllowed):
                    check_reports(table, 3, ((0, 2, 0), (0, 3, value)))

    def test_forty_one(self):
        spans = sorted([(x, x + 1, 0) for x in range(40)] + [(0, 2, 1), (0, 3, 0)])
        self.assertIsNone(check_reports(TURN, 40, tuple(spans[:40])))
        with self.assertRaises(NotAllowed):
            check_reports(TURN, 40, tuple(spans[:41]))


class LogsTest(unittest.TestCase):
    def test_examples(self):
        told = ((0, 2, 0), (0, 4, 1), (1, 3, 1))
        self.assertEqual((count_logs(TURN, 4, told, 0), log_at(TURN, 4, told, 0, 0), letters_at(TURN, 4, told, 0, 3)),
                         (2, ("a", "b", "b", "a"), ("a", "b")))
        self.assertEqual((values_between(TURN, 4, told, 0, 2, 4), values_between(TURN, 4, told, 0, 0, 1),
                          count_logs(TURN, 4, told, 1)), ((0,), (0, 1), 8))
        with self.assertRaises(Missing):
            log_at(TURN, 4, told, 0, 2)

    def test_by_definition(self):
        rng = random.Random(401)
        seen = {0: 0, 1: 0, 2: 0}
        for table in [TURN, BRANDT, LEFT_ZERO, THREE_ROOMS, TRIVIAL, power_table(2, 3)] + random_tables(402, 8, 20):
            for _ in range(6):
                n = rng.randint(1, 7 if len(table[0]) < 3 else 5)
                reports = random_reports(rng, table, n, 8)
                for wrong in (0, 1, 2):
                    if slow_held(table, n, reports, wrong) > 200:
                        continue
                    logs = slow_possible(table, n, reports, wrong)
                    seen[min(2, len(logs))] += 1
                    self.told(rng, table, n, reports, wrong, logs)
        self.assertGreater(min(seen.values()), 4)

    def told(self, rng, table, n, reports, wrong, logs):
        self.assertEqual(count_logs(table, n, reports, wrong), len(logs))
        for index in {0, len(logs) // 2, len(logs) - 1, rng.randrange(len(logs) + 1)}:
            if 0 <= index < len(logs):
                self.assertEqual(log_at(table, n, reports, wrong, index), logs[index])
        for index in (-1, len(logs), len(logs) + 5):
            with self.assertRaises(Missing):
                log_at(table, n, reports, wrong, index)
        for place in range(n):
            there = {log[place] for log in logs}
            self.assertEqual(letters_at(table, n, reports, wrong, place),
                             tuple(letter for letter in table[0] if letter in there))
        for first, last in itertools.combinations(range(n + 1), 2):
            wanted = tuple(sorted({slow_value(table, log[first:last]) for log in logs}))
            if slow_held(table, n, reports, wrong, ((first, last),)) > 200:
                wanted = TooLarge
            self.assertEqual(self.values(table, n, reports, wrong, first, last), wanted)

    def values(self, *parts):
        try:
            return values_between(*parts)
        except TooLarge:
            return TooLarge

    def test_no_reports(self):
        for table, n in ((TURN, 40), (THREE_ROOMS, 40), (LEFT_ZERO, 17), (TRIVIAL, 1)):
            letters = table[0]
            number = len(letters) ** n
            for wrong in (0, 1, 2):
                self.assertEqual(count_logs(table, n, (), wrong), number)
            self.assertEqual(log_at(table, n, (), 0, 0), (letters[0],) * n)
            self.assertEqual(log_at(table, n, (), 0, number - 1), (letters[-1],) * n)
            index = number * 5 // 7
            digits, rest = [], index
            for _ in range(n):
                digits.append(letters[rest % len(letters)])
                rest = rest // len(letters)
            self.assertEqual(log_at(table, n, (), 0, index), tuple(digits[::-1]))
            with self.assertRaises(Missing):
                log_at(table, n, (), 0, number)
            self.assertEqual(letters_at(table, n, (), 0, n - 1), letters)

    def test_forty_reports(self):
        # The letters of a long log are all told, one by one; what is wrong may be two of them.
        log = tuple("ab" * 20)
        reports = tuple((x, x + 1, slow_value(TURN, log[x:x + 1])) for x in range(40))
        for wrong, number in ((0, 1), (1, 41), (2, 41 + 40 * 39 // 2)):
            self.assertEqual(count_logs(TURN, 40, reports, wrong), number)
        self.assertEqual(log_at(TURN, 40, reports, 0, 0), log)
        self.assertEqual((letters_at(TURN, 40, reports, 0, 7), letters_at(TURN, 40, reports, 1, 7)), (("b",), ("a", "b")))
        self.assertEqual(values_between(TURN, 40, reports, 0, 0, 40), (slow_value(TURN, log),))
        self.assertEqual(values_between(TURN, 40, reports, 1, 0, 40), (0, 1))

    def test_nothing_possible(self):
        told = ((0, 1, 0), (0, 2, 0), (1, 2, 0))
        self.assertEqual((count_logs(TURN, 3, told, 0), letters_at(TURN, 3, told, 0, 2), values_between(TURN, 3, told, 0, 0, 3)),
                         (0, (), ()))
        for index in (0, -1, 1):
            with self.assertRaises(Missing):
                log_at(TURN, 3, told, 0, index)
        self.assertEqual(count_logs(TURN, 3, told, 1), 6)


class LimitsTest(unittest.TestCase):
    def asks(self, table, n, reports, wrong):
        return [lambda: count_logs(table, n, reports, wrong), lambda: log_at(table, n, reports, wrong, 0),
                lambda: letters_at(table, n, reports, wrong, 0), lambda: values_between(table, n, reports, wrong, 0, 1)]

    def test_wrong_numbers(self):
        for wrong in (-1, 3, 40):
            for ask in self.asks(TURN, 4, ((0, 2, 0),), wrong) + self.asks(THREE_ROOMS, 10, HELD[3][1], wrong):
                with self.assertRaises(NotAllowed):
                    ask()

    def test_wrong_places(self):
        for n, reports, table in ((4, ((0, 2, 0),), TURN), (10, HELD[3][1], THREE_ROOMS)):
            for place in (-1, n, n + 1):
                with self.assertRaises(NotAllowed):
                    letters_at(table, n, reports, 0, place)
            for first, last in ((-1, 2), (0, n + 1), (2, 2), (3, 1), (n, n + 1), (n, n)):
                with self.assertRaises(NotAllowed):
                    values_between(table, n, reports, 0, first, last)

    def test_held_rows(self):
        for n, reports, wrong, held in HELD:
            self.assertEqual(slow_held(THREE_ROOMS, n, reports, wrong), held)
            for ask in self.asks(THREE_ROOMS, n, reports, wrong):
                if held > 200:
                    with self.assertRaises(TooLarge):
                        ask()
                else:
                    ask()

    def test_a_further_slice(self):
        # What is asked is held, too: it may be too much where the reports alone are not.
        n, reports, wrong, _ = HELD[0]
        spans = {(first, last): slow_held(THREE_ROOMS, n, reports, wrong, ((first, last),))
                 for first, last in itertools.combinations(range(n + 1), 2)}
        self.assertEqual(spans[(0, 1)], 200)
        self.assertGreater(max(spans.values()), 200)
        self.assertIn(200, [held for (first, last), held in spans.items() if last > first + 1])
        for first, last in spans:
            if spans[(first, last)] > 200:
                with self.assertRaises(TooLarge):
                    values_between(THREE_ROOMS, n, reports, wrong, first, last)
            else:
                values_between(THREE_ROOMS, n, reports, wrong, first, last)


if __name__ == "__main__":
    unittest.main()
