"""[48] and [49]: forgetting."""

import itertools
import random
import time
import unittest

from hourrings.books import is_keeping
from hourrings.closed import closed, follows
from hourrings.errors import AtOdds, InvalidBook, InvalidNames, Unlike
from hourrings.follows import are_equal, weight
from hourrings.forgetting import forgotten, is_silent, news, shared_unknowns, told_of
from hourrings.given import first_with, goes_on
from hourrings.rings import can_be_kept
from tests.test_rows import rests_of, tried_rows
from tests.trying import (BOOKS, KINDS, ODD, SPANS, WRONG_BOOKS, WRONG_NAMES_LISTS, check_at_odds, check_fresh,
                          check_refusals, check_refused, difference, drawn_line, great_book, great_names, keeps_line,
                          lcm_of, line_of, lots, names_of, sum_of, times, told_book, tried, tried_line)

GOOD = {"hours": ("hours", [("a", "b", 3, 12), ("b", "c", 5, 18), ("a", "c", 0, 4)]),
        "bits": ("bits", [("a", "b", 1, 6), ("b", "c", 2, 10), ("a", "c", 1, 2)])}


def books_of(seed, many, names, most):
    rng = random.Random(seed)
    for kind in KINDS:
        for _ in range(many):
            yield rng, told_book(rng, kind, names, most)


def two_books(seed, many, both_kept=False, shared="abc"):
    """Two drawn books of a kind with some unknowns in common, each of which can be kept."""
    rng = random.Random(seed)
    for kind in KINDS:
        found = 0
        while found < many:
            told = {name: rng.randrange(4) for name in "abcdxy"}
            bys = rng.choice([[2, 4, 8], [2, 3, 6, 12], [4, 6], [0, 2, 3], [2, 1, 4]])
            books = []
            for names in (shared[:rng.choice([2, 3, 3])] + "x", shared[rng.choice([0, 0, len(shared) - 2]):] + "y"):
                lines = []
                for _ in range(rng.choice([0, 2, 3, 3, 4, 5])):
                    one, other = rng.sample(names, 2)
                    off = rng.choice([0, 0, 1, 2]) if len(books) == 1 and not both_kept else 0
                    number = sum_of(kind, difference(kind, told[other], told[one]), off)
                    lines.append(line_of(kind, one, other, number, rng.choice(bys)))
                books.append((kind, lines))
            one, other = books
            kept = [can_be_kept(book) for book in (one, other, (kind, one[1] + other[1]))]
            if kept[0] and kept[1] and (kept[2] or not both_kept):
                found += 1
                yield rng, one, other


def halves(names):
    for lot in lots(len(names)):
        yield [names[at] for at in lot], [names[at] for at in range(len(names)) if at not in lot]


class Forgotten(unittest.TestCase):
    def test_all_numbers_of_a_period(self):
        """Numbers of what is left keep what is told of it exactly if they can be gone on."""
        found = 0
        for rng, book in books_of(131, 120, ["a", "b", "c"], 4):
            kind, lines = book
            period = 1
            for line in lines:
                period = lcm_of(kind, period, line[3])
            if period == 0 or len(rests_of(kind, period)) > 12:
                continue
            names = names_of(lines)
            rows = tried_rows(book, period)
            for left, gone in halves(names):
                told = check_fresh(self, told_of, book, left)
                self.assertEqual(told, forgotten(book, gone))
                self.assertEqual(told[0], kind)
                shadows = {tuple(row[names.index(name)] for name in left) for row in rows}
                for row in itertools.product(rests_of(kind, period), repeat=len(left)):
                    keeps = all(keeps_line(kind, line, dict(zip(left, row))) for line in told[1])
                    self.assertIs(keeps, row in shadows, (book, left, row))
            found += 1
        self.assertGreater(found, 80)

    def test_exact_lines_among_them(self):
        for rng, book in books_of(132, 40, ["a", "b", "c", "d"], 6):
            kind, names = book[0], names_of(book[1])
            for left, gone in halves(names):
                told = check_fresh(self, forgotten, book, gone)
                self.assertEqual(told[1], [line for line in closed(book) if line[0] in left and line[1] in left])
                for _ in range(6):
                    numbers = [(name, rng.randrange(6)) for name in left]
                    keeps = all(keeps_line(kind, line, dict(numbers)) for line in told[1])
                    self.assertIs(keeps, goes_on(book, numbers))
                    if keeps:
                        self.assertIs(is_keeping(book, first_with(book, numbers)), True)

    def test_nothing_further_follows(self):
        for rng, book in books_of(133, 60, ["a", "b", "c", "d"], 6):
            names = names_of(book[1])
            for left, gone in halves(names):
                told = forgotten(book, gone)
                if len(left) > 1:
                    for _ in range(5):
                        line = drawn_line(rng, book[0], left, [0, 1, 2, 3, 4, 6])
                        self.assertIs(follows(told, line), follows(book, line))

    def test_each_order(self):
        for rng, book in books_of(134, 25, ["a", "b", "c", "d"], 7):
            for many in range(5):
                gone = sorted(rng.sample("abcd", many))
                whole = forgotten(book, gone)
                for order in itertools.permutations(gone):
                    step = book
                    for name in order:
                        step = forgotten(step, [name])
                    self.assertIs(are_equal(step, whole), True)
                    step = forgotten(forgotten(book, sorted(order[:2])), sorted(order[2:]))
                    self.assertIs(are_equal(step, whole), True)

    def test_edges(self):
        for kind in KINDS:
            self.assertEqual(told_of((kind, []), []), (kind, []))
            self.assertEqual(told_of((kind, []), ["a", "b"]), (kind, []))
            self.assertEqual(forgotten((kind, [("b", "a", 1, 2)]), []), (kind, [("a", "b", 1, 2)]))
            self.assertEqual(forgotten((kind, [("b", "a", 1, 2)]), ["x", "y"]), (kind, [("a", "b", 1, 2)]))
            self.assertEqual(told_of((kind, [("b", "a", 1, 2)] * 3), ["a", "b", "c"]), (kind, [("a", "b", 1, 2)]))
            self.assertEqual(told_of((kind, [("b", "a", 1, 2)]), ["a", "c"]), (kind, []))
            self.assertEqual(told_of((kind, [("a", "b", 0, 1)]), ["a", "b"]), (kind, []))
            self.assertEqual(forgotten((kind, [("a", "b", 5, 0), ("b", "c", 5, 0)]), ["b"]),
                             (kind, [("a", "c", 10 if kind == "hours" else 0, 0)]))

    def test_refused(self):
        for kind in KINDS:
            names = [("names", ["a", "x"], [(InvalidNames, WRONG_NAMES_LISTS)])]
            for function in (told_of, forgotten):
                check_refusals(self, function, [("book", GOOD[kind], BOOKS)] + names)
                check_at_odds(self, function, [("book", ODD[kind], [])] + names)


class News(unittest.TestCase):
    def test_by_trying(self):
        seen = []
        for _, one, other in two_books(135, 60, both_kept=True, shared="ab"):
            kind, lines = other
            both = one[1] + lines
            names = names_of(lines)
            self.assertEqual(check_fresh(self, shared_unknowns, one, other),
                             [name for name in names_of(one[1]) if name in names])
            expected = []
            if names:
                more = tried(kind, both, names_of(both), range(-14, 15) if kind == "hours" else range(32))
                rows = tried(kind, lines, names, SPANS[kind])
                for pair in itertools.combinations(names, 2):
                    line = tried_line(kind, more, *pair)
                    if not all(keeps_line(kind, line, row) for row in rows):
                        expected.append(line)
            self.assertEqual(check_fresh(self, news, one, other), expected, (one, other))
            self.assertIs(check_fresh(self, is_silent, one, other), expected == [])
            seen.append(expected == [])
        self.assertGreater(min(seen.count(True), seen.count(False)), 15)

    def test_silence(self):
        """Three things are the same: no news, what follows from the other one, and numbers that go on."""
        seen = []
        for rng, one, other in two_books(136, 160, both_kept=True):
            kind = one[0]
            both = (kind, one[1] + other[1])
            silent = is_silent(one, other)
            told = told_of(one, shared_unknowns(one, other))
            self.assertIs(silent, all(follows(other, line) for line in told[1]))
            names = names_of(other[1])
            if silent:
                for _ in range(5):
                    first = first_with(other, [(names[-1], rng.randrange(9))] if names else [])
                    self.assertIs(goes_on(both, first), True)
            else:
                line = next(line for line in told[1] if not follows(other, line))
                self.assertIs(self.some_row_stops(both, other, line), True)
            seen.append(silent)
        self.assertGreater(min(seen.count(True), seen.count(False)), 50)

    def some_row_stops(self, both, other, line):
        """Whether some numbers that keep the other book, but not the line, can't be gone on."""
        kind = both[0]
        for number in range(-20, 20) if kind == "hours" else range(32):
            row = first_with(other, sorted([(line[0], 0), (line[1], number)]))
            if row is not None and not goes_on(both, row):
                return True
        return False

    def test_counted(self):
        found = 0
        for _, one, other in two_books(137, 150, both_kept=True):
            kind = one[0]
            if any(line[3] == 0 for line in one[1] + other[1]):
                continue
            both = (kind, one[1] + other[1])
            shared = shared_unknowns(one, other)
            left, right = weight(both), weight(told_of(both, shared))
            for book in (one, other):
                left, right = times(kind, left, weight(told_of(book, shared))), times(kind, right, weight(book))
            self.assertEqual(left, right, (one, other))
            found += weight(both) > 4
        self.assertGreater(found, 50)

    def test_edges(self):
        for kind in KINDS:
            empty, book = (kind, []), (kind, [("b", "a", 1, 2)])
            for one, other in ((empty, empty), (empty, book), (book, empty)):
                self.assertEqual([shared_unknowns(one, other), news(one, other), is_silent(one, other)], [[], [], True])
            self.assertEqual([shared_unknowns(book, book), news(book, book)], [["a", "b"], []])
            self.assertIs(is_silent(book, book), True)
            idle = (kind, [("a", "b", 0, 1)])
            self.assertEqual([news(book, idle), news(idle, book)], [[("a", "b", 1, 2)], []])
            far = (kind, [("a", "x", 1, 2), ("x", "b", 1, 2)])
            near = (kind, [("a", "b", 0, 1), ("b", "c", 0, 4)])
            self.assertEqual(news(far, near), [("a", "b", 0, 2), ("a", "c", 0, 2)])

    def test_great_books(self):
        rng = random.Random(138)
        begun = time.time()
        for kind in KINDS:
            for shared in (0, 1, 60):
                lines = great_book(rng, kind, shared)[1]
                one, other = (kind, lines[:20]), (kind, lines[20:])
                told = news(one, other)
                self.assertIs(is_silent(one, other), told == [])
                self.assertTrue(all(follows((kind, lines), line) and not follows(other, line) for line in told))
                gone = forgotten((kind, lines), great_names(12)[::2])
                self.assertTrue(all(follows((kind, lines), line) for line in gone[1]))
                self.assertTrue(set(names_of(gone[1])) <= set(great_names(12)[1::2]))
        self.assertLess(time.time() - begun, 10)

    def test_refused(self):
        for kind in KINDS:
            other_kind = "bits" if kind == "hours" else "hours"
            book, of_other = (kind, [("a", "b", 1, 2)]), (other_kind, [("a", "b", 1, 2)])
            for function in (shared_unknowns, news, is_silent):
                check_refusals(self, function, [("one", book, BOOKS),
                                                ("other", book, BOOKS + [(Unlike, [of_other, ODD[other_kind]])])])
                for wrong in WRONG_BOOKS:
                    check_refused(self, function, InvalidBook, wrong, ["one", "other"], [ODD[kind], wrong])
                check_refused(self, function, Unlike, of_other, ["one", "other"], [ODD[kind], of_other])
            self.assertEqual(shared_unknowns(ODD[kind], book), ["a", "b"])
            odd = (kind, list(ODD[kind][1]))
            for function in (news, is_silent):
                for one, other, first in ((odd, book, odd), (book, odd, odd), (odd, ODD[kind], odd)):
                    check_refused(self, function, AtOdds, first, ["one", "other"], [one, other])
                bent = (kind, [("a", "b", 0, 2), ("x", "y", 1, 2)])
                with self.assertRaises(AtOdds) as caught:
                    function(book, bent)
                self.assertEqual(caught.exception.value, (kind, book[1] + bent[1]))
                self.assertIsInstance(caught.exception.value, tuple)


if __name__ == "__main__":
    unittest.main()
