"""[37] to [39]: numbers given one by one."""

import itertools
import random
import time
import unittest

from hourrings.books import is_keeping
from hourrings.closed import closed
from hourrings.errors import InvalidName, InvalidNumbers
from hourrings.given import first_denied, first_numbers, first_with, goes_on, rest_given
from tests.trying import (BOOKS, KINDS, ODD, WRONG_NAMES, WRONG_NUMBERS_OF, check_at_odds, check_fresh, check_refusals,
                          difference, great_book, great_names, great_number, keeps_line, names_of, rest_of, sum_of,
                          tried_books)

GOOD = {"hours": ("hours", [("a", "b", 3, 12), ("b", "c", 5, 18), ("a", "c", 0, 4)]),
        "bits": ("bits", [("a", "b", 1, 6), ("b", "c", 2, 10), ("a", "c", 1, 2)])}
EXACT = ("hours", [("a", "b", -5, 0), ("a", "c", 1, 2)])


def tried_on(kind, rows, told):
    """Whether some row, moved as a whole, has the told numbers."""
    if not told:
        return True
    first = min(told)
    return any(all(difference(kind, row[name], row[first]) == difference(kind, number, told[first])
                   for name, number in told.items()) for row in rows)


def told_numbers(rng, kind, names):
    many = rng.randint(0, len(names))
    low = -4 if kind == "hours" else 0
    return [(name, rng.randint(low, 9)) for name in sorted(rng.sample(names, many))]


def told_books(seed, many):
    """Drawn books with all rows of a span, and with numbers of some unknowns that go on, or that are just any."""
    for rng, book, rows in tried_books(seed, many):
        kind, names = book[0], names_of(book[1])
        for _ in range(6):
            numbers = told_numbers(rng, kind, names)
            if rng.random() < 0.6 and rows:
                row = rng.choice(rows[:40])
                numbers = [(name, sum_of(kind, row[name], 5)) for name, _ in numbers]
                numbers = [(name, number) for name, number in numbers if kind == "hours" or number >= 0]
            yield book, rows, numbers


def tried_next(kind, book, numbers, name):
    """The least count, or the one number, that can be given to a name so that all go on, by trying counts."""
    for number in itertools.count():
        if goes_on(book, sorted(numbers + [(name, number)])):
            return number
        if number > 40:
            return next(other for other in range(-40, 0) if goes_on(book, sorted(numbers + [(name, other)])))


class FirstNumbers(unittest.TestCase):
    def test_by_trying(self):
        for _, book, rows in tried_books(101, 60):
            kind, names = book[0], names_of(book[1])
            told = {}
            for name in names:
                fitting = {row[name] for row in rows if all(row[other] == number for other, number in told.items())}
                counts = [number for number in fitting if number >= 0]
                told[name] = min(counts) if counts else fitting.pop()
            self.assertEqual(check_fresh(self, first_numbers, book), sorted(told.items()), book)
            self.assertIs(is_keeping(book, first_numbers(book)), True)

    def test_edges(self):
        for kind in KINDS:
            self.assertEqual(first_numbers((kind, [])), [])
            self.assertEqual(first_numbers((kind, [("b", "a", 0, 1)])), [("a", 0), ("b", 0)])
            self.assertEqual(first_numbers((kind, [("a10", "a2", 1, 2)] * 2)), [("a10", 0), ("a2", 1)])
        self.assertEqual(first_numbers(EXACT), [("a", 0), ("b", -5), ("c", 1)])
        self.assertEqual(first_numbers(("hours", [("b", "c", -5, 0), ("a", "c", -1, 0)])),
                         [("a", 0), ("b", 4), ("c", -1)])
        self.assertEqual(first_numbers(("hours", [("b", "c", -5, 0), ("a", "c", 1, 3)])),
                         [("a", 0), ("b", 0), ("c", -5)])
        self.assertEqual(first_numbers(("bits", [("a", "b", 1, 6), ("b", "c", 6, 0)])), [("a", 0), ("b", 1), ("c", 7)])

    def test_great_books(self):
        rng = random.Random(102)
        begun = time.time()
        for kind in KINDS:
            for shared in (0, 1, 6, 60):
                book = great_book(rng, kind, shared)
                numbers = first_numbers(book)
                self.assertIs(is_keeping(book, numbers), True)
                some = [item for item in numbers if rng.random() < 0.5]
                self.assertIs(goes_on(book, some), True)
                self.assertIs(is_keeping(book, first_with(book, some)), True)
                name = next(name for name in great_names(12) if name not in dict(some))
                ahead, by = rest_given(book, some, name)
                self.assertEqual(rest_of(kind, difference(kind, dict(numbers)[name], ahead), by), 0)
                bent = [(name, sum_of(kind, number, great_number(rng, kind))) for name, number in numbers]
                self.assertIs(goes_on(book, bent), first_denied(book, bent) is None)
        self.assertLess(time.time() - begun, 10)

    def test_refused(self):
        for kind in KINDS:
            check_refusals(self, first_numbers, [("book", GOOD[kind], BOOKS)])
            check_at_odds(self, first_numbers, [("book", ODD[kind], [])])


class GoingOn(unittest.TestCase):
    def test_by_trying(self):
        seen = []
        for book, rows, numbers in told_books(103, 50):
            kind = book[0]
            right = tried_on(kind, rows, dict(numbers)) if book[1] else True
            self.assertIs(check_fresh(self, goes_on, book, numbers), right, (book, numbers))
            seen.append(right)
            # It is so exactly if each two of them do.
            pairs = [list(pair) for pair in itertools.combinations(numbers, 2)]
            self.assertIs(all(goes_on(book, pair) for pair in pairs), right)
            told = dict(numbers)
            denied = [line for line in closed(book)
                      if line[0] in told and line[1] in told and not keeps_line(kind, line, told)]
            self.assertEqual(check_fresh(self, first_denied, book, numbers), denied[0] if denied else None)
            self.assertIs(denied == [], right)
        self.assertGreater(min(seen.count(True), seen.count(False)), 50)

    def test_first_with(self):
        seen = []
        for book, _, numbers in told_books(104, 40):
            answer = check_fresh(self, first_with, book, numbers)
            seen.append(answer is None)
            if not goes_on(book, numbers):
                self.assertIsNone(answer)
                continue
            given = list(numbers)
            for name in names_of(book[1]):
                if name not in dict(numbers):
                    given.append((name, tried_next(book[0], book, given, name)))
            self.assertEqual(answer, sorted(given), (book, numbers))
            self.assertIs(is_keeping(book, answer), True)
        self.assertGreater(min(seen.count(True), seen.count(False)), 30)

    def test_first_with_no_numbers(self):
        for _, book, _ in tried_books(105, 40):
            self.assertEqual(first_with(book, []), first_numbers(book))
            self.assertEqual(first_with(book, first_numbers(book)), first_numbers(book))

    def test_edges(self):
        for kind in KINDS:
            self.assertIs(goes_on((kind, []), []), True)
            self.assertIsNone(first_denied((kind, []), []))
            self.assertEqual(first_with((kind, []), []), [])
            self.assertIs(goes_on((kind, [("a", "b", 0, 1)]), [("a", 5), ("b", 8)]), True)
            book = (kind, [("a", "b", 1, 2), ("c", "d", 1, 2), ("a", "d", 0, 0)])
            self.assertEqual(first_denied(book, [("a", 0), ("b", 0), ("c", 0), ("d", 2)]), ("a", "b", 1, 2))
            self.assertEqual(first_denied(book, [("a", 0), ("b", 1), ("c", 1), ("d", 2)]), ("a", "d", 0, 0))
            self.assertEqual(first_denied(book, [("c", 0), ("d", 2)]), ("c", "d", 1, 2))
            self.assertIsNone(first_with(book, [("c", 0), ("d", 2)]))
            self.assertEqual(first_with(book, [("d", 3)]), [("a", 3), ("b", 0), ("c", 0), ("d", 3)])
        self.assertEqual(first_with(EXACT, [("c", -4)]), [("a", 1), ("b", -4), ("c", -4)])
        self.assertEqual(first_with(EXACT, [("a", -4)]), [("a", -4), ("b", -9), ("c", 1)])

    def test_refused(self):
        for kind in KINDS:
            wrong = [[("a", 1), ("x", 1)], [("x", 1)], [("a", 1), ("b", 1), ("c", 1), ("d", 1)]]
            wrong = WRONG_NUMBERS_OF[kind] + wrong
            numbers = [("numbers", [("a", 0), ("c", 4)], [(InvalidNumbers, wrong)])]
            for function in (goes_on, first_denied, first_with):
                check_refusals(self, function, [("book", GOOD[kind], BOOKS)] + numbers)
                check_at_odds(self, function, [("book", ODD[kind], [])] + numbers)


class RestGiven(unittest.TestCase):
    def test_by_trying(self):
        seen = []
        for book, _, numbers in told_books(106, 70):
            kind = book[0]
            for name in names_of(book[1]):
                if name in dict(numbers):
                    self.assertRaises(InvalidName, rest_given, book, numbers, name)
                    continue
                answer = check_fresh(self, rest_given, book, numbers, name)
                self.assertIs(answer is None, not goes_on(book, numbers))
                seen.append(answer is None)
                if answer is None:
                    continue
                self.assertIsInstance(answer, tuple)
                rest, by = answer
                if not numbers:
                    self.assertEqual(answer, (0, 1))
                self.assertTrue(by == 0 or rest == rest_of(kind, rest, by))
                for number in range(-30, 30) if kind == "hours" else range(32):
                    on = goes_on(book, sorted(numbers + [(name, number)]))
                    self.assertIs(on, rest_of(kind, difference(kind, number, rest), by) == 0, (book, numbers, name))
        self.assertGreater(min(seen.count(True), seen.count(False)), 20)

    def test_edges(self):
        self.assertEqual(rest_given(EXACT, [("b", 0)], "a"), (5, 0))
        self.assertEqual(rest_given(EXACT, [("a", 0)], "b"), (-5, 0))
        self.assertEqual(rest_given(EXACT, [("b", 0)], "c"), (0, 2))
        for kind in KINDS:
            idle = (kind, [("a", "b", 0, 1), ("b", "c", 1, 2)])
            self.assertEqual(rest_given(idle, [("a", 7)], "b"), (0, 1))
            self.assertEqual(rest_given(idle, [("a", 7), ("c", 2)], "b"), (1, 2))
            self.assertEqual(rest_given(line_book(kind), [("a", 4), ("c", 4)], "b"), line_rest(kind))

    def test_refused(self):
        for kind in KINDS:
            wrong = [("a", 1), ("x", 1)], [("x", 1)]
            parameters = [("numbers", [("a", 0)], [(InvalidNumbers, WRONG_NUMBERS_OF[kind] + list(wrong))]),
                          ("name", "b", [(InvalidName, WRONG_NAMES + ["a", "x"])])]
            check_refusals(self, rest_given, [("book", GOOD[kind], BOOKS)] + parameters)
            check_at_odds(self, rest_given, [("book", ODD[kind], [])] + parameters)


def line_book(kind):
    """Two lines that tell more of b together than each one by itself."""
    return (kind, [("a", "b", 1, 4 if kind == "hours" else 2), ("c", "b", 0, 3)])


def line_rest(kind):
    told = [number for number in range(12) if all(keeps_line(kind, line, {"a": 4, "c": 4, "b": number})
                                                  for line in line_book(kind)[1])]
    return (min(told), 12 if kind == "hours" else 6)


if __name__ == "__main__":
    unittest.main()
