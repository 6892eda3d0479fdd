"""[40] to [42]: rows of a period."""

import itertools
import math
import random
import time
import unittest

from hourrings.errors import InvalidNames, InvalidNumber, InvalidNumbers, InvalidPeriod, InvalidRow, TooMany
from hourrings.rings import can_be_kept
from hourrings.rows import (all_rows, choices_left, how_many_rows, how_many_with, keeps_row, least_period, next_row,
                            number_of_row, row_numbered)
from tests.test_follows import ORDERS
from tests.trying import (BOOKS, KINDS, NO_COUNTS, ODD, THINGS, WRONG_NUMBERS_OF, check_fresh, check_refusals,
                          drawn_book, goes_into, great_book, great_names, keeps_line, lcm_of, line_of, names_of,
                          rest_of, sum_of, times)

BOOK = {"hours": ("hours", [("a", "b", 7, 12), ("b", "c", 3, 8), ("a", "c", 2, 4)]),
        "bits": ("bits", [("a", "b", 1, 6), ("b", "c", 2, 10), ("a", "c", 1, 2)])}
PERIOD = {"hours": 24, "bits": 30}
ROW = {"hours": [0, 7, 2], "bits": [0, 1, 3]}
NO_ROWS = THINGS + [7, "072", [0], [0, 7], [0, 7, 2, 0], (0, 7, 2), [[0, 7, 2]], [0, 7, "2"], [0, 7, None],
                    [False, 7, 2], [0, True, 3], [0, 7, [2]], [0, 7, (2,)], [("a", 0), ("b", 7), ("c", 2)],
                    {0: 1, 7: 1, 2: 1}, [0, 8, 2], [-24, 7, 2], [0, 7, -2], [24, 7, 2], [0, 31, 2], [0, 7, 26],
                    [0, 0, 0], [0, 7, 2 + 10 ** 29], [0, 7, InvalidRow(2)]]
NO_PERIODS = {"hours": [None, True, False, 0, 1, 2, 12, 8, 36, -24, 25, "24", "", [24], (24,), {}, 23,
                        InvalidPeriod(24)],
              "bits": [None, True, False, 0, 1, 2, 6, 12, 18, 24, -30, 31, "30", "", [30], (30,), {},
                       InvalidPeriod(30)]}


def rests_of(kind, period):
    return range(period if kind == "hours" else 1 << period.bit_length() - 1)


def tried_rows(book, period):
    """All rows that keep a book, each line by rests of its by or of the period."""
    kind, lines = book
    names = names_of(lines)
    lines = [line if line[3] else line_of(kind, line[0], line[1], line[2], period) for line in lines]
    return [list(row) for row in itertools.product(rests_of(kind, period), repeat=len(names))
            if all(keeps_line(kind, line, dict(zip(names, row))) for line in lines)]


def small_books(seed, many, most=5):
    """Drawn books, at odds or not, with a small period and with all rows."""
    rng = random.Random(seed)
    for kind in KINDS:
        found = 0
        while found < many:
            book = drawn_book(rng, kind, ["a", "b", "c"][:rng.randint(2, 3)], most)
            period = 1
            for line in book[1]:
                period = lcm_of(kind, period, line[3] or 1)
            period = times(kind, period, rng.choice([1, 1, 2, 3]))
            if len(rests_of(kind, period)) <= 16:
                found += 1
                yield rng, book, period, tried_rows(book, period)


class Rows(unittest.TestCase):
    def test_by_trying(self):
        none = odd = 0
        for rng, book, period, rows in small_books(111, 60):
            self.assertEqual(how_many_rows(book, period), len(rows), (book, period))
            if len(rows) <= 2000:
                self.assertEqual(check_fresh(self, all_rows, book, period), rows)
            else:
                with self.assertRaises(TooMany) as caught:
                    all_rows(book, period)
                self.assertEqual(caught.exception.value, len(rows))
            picked = rows if len(rows) < 40 else rng.sample(rows, 30) + rows[:3] + rows[-3:]
            for row in picked:
                at = rows.index(row)
                self.assertEqual(check_fresh(self, row_numbered, book, period, at), row)
                self.assertEqual(check_fresh(self, number_of_row, book, period, row), at)
                self.assertEqual(check_fresh(self, next_row, book, period, row), (rows + [None])[at + 1])
                self.assertIs(check_fresh(self, keeps_row, book, period, row), True)
            for many in (len(rows), len(rows) + 1, 10 ** 29):
                self.assertIsNone(row_numbered(book, period, many))
            self.check_any_rows(rng, book, period, rows)
            none += rows == []
            odd += rows != [] and not can_be_kept(book)
        self.assertGreater(none, 10)
        self.assertGreater(odd, 0)

    def check_any_rows(self, rng, book, period, rows):
        kind, many = book[0], len(names_of(book[1]))
        for _ in range(12):
            row = [rng.choice(rests_of(kind, period)) for _ in range(many)]
            if rows and rng.random() < 0.5:
                row = list(rng.choice(rows))
                if row:
                    row[rng.randrange(many)] += rng.choice([-1, 1, period, -period])
            self.assertIs(keeps_row(book, period, row), row in rows, (book, period, row))
            if row not in rows:
                for function in (number_of_row, next_row):
                    with self.assertRaises(InvalidRow) as caught:
                        function(book, period, row)
                    self.assertIs(caught.exception.value, row)

    def test_choices(self):
        for _, book, period, rows in small_books(112, 50):
            names = names_of(book[1])
            for order in itertools.permutations(names):
                told = check_fresh(self, choices_left, book, period, list(order))
                if not rows:
                    self.assertEqual(told, [])
                    continue
                self.assertEqual(math.prod(told), len(rows))
                places = [names.index(name) for name in order]
                for at in range(len(order)):
                    # Whatever the numbers ahead of it are, each one has as many choices.
                    choices = {}
                    for row in rows:
                        ahead = tuple(row[place] for place in places[:at])
                        choices.setdefault(ahead, set()).add(row[places[at]])
                    self.assertEqual({len(found) for found in choices.values()}, {told[at]})

    def test_with_told_numbers(self):
        seen = []
        for rng, book, period, rows in small_books(113, 60):
            kind, names = book[0], names_of(book[1])
            for _ in range(8):
                numbers = [(name, rng.randint(-20 if kind == "hours" else 0, 40))
                           for name in names if rng.random() < 0.5]
                if rows and rng.random() < 0.6:
                    row = dict(zip(names, rng.choice(rows)))
                    numbers = [(name, sum_of(kind, row[name], period)) for name, _ in numbers]
                told = {names.index(name): rest_of(kind, number, period) for name, number in numbers}
                many = len([row for row in rows if all(row[at] == number for at, number in told.items())])
                self.assertEqual(check_fresh(self, how_many_with, book, period, numbers), many, (book, period, numbers))
                seen.append(min(many, 2))
            self.assertEqual(how_many_with(book, period, []), len(rows))
        self.assertEqual(set(seen), {0, 1, 2})

    def test_least_period(self):
        for _, book, _, _ in small_books(114, 40):
            period = least_period(book)
            kind = book[0]
            bys = [line[3] for line in book[1] if line[3]]
            right = [number for number in range(1, period + 1) if all(goes_into(kind, by, number) for by in bys)]
            self.assertEqual(right, [period])
            how_many_rows(book, period)
        for kind in KINDS:
            self.assertEqual([least_period((kind, [])), least_period((kind, [("a", "b", 5, 0)]))], [1, 1])
            self.assertEqual(least_period(ODD[kind]), {"hours": 36, "bits": 10}[kind])

    def test_exact_lines(self):
        """Exact lines are kept by rests of the period: such as are at odds may be kept so."""
        book = ("hours", [("a", "b", -5, 0), ("a", "b", 1, 0), ("b", "c", 7, 0)])
        self.assertIs(can_be_kept(book), False)
        self.assertEqual(all_rows(book, 3), [[0, 1, 2], [1, 2, 0], [2, 0, 1]])
        self.assertEqual([how_many_rows(book, 6), how_many_rows(book, 4), how_many_rows(book, 1)], [6, 0, 1])
        self.assertEqual(all_rows(book, 4), [])
        self.assertEqual(choices_left(book, 4, ["c", "a", "b"]), [])
        self.assertIsNone(row_numbered(book, 4, 0))
        self.assertEqual(how_many_with(book, 4, []), 0)
        self.assertEqual(how_many_with(book, 3, [("b", -2), ("c", 5)]), 1)
        self.assertIs(keeps_row(book, 4, [0, 0, 0]), False)
        words = ("bits", [("a", "b", 5, 0), ("a", "b", 6, 0)])
        self.assertEqual(all_rows(words, 3), [[0, 0], [1, 1]])
        self.assertEqual(all_rows(words, 2), [])
        self.assertEqual(how_many_rows(words, 3), 2)

    def test_edges(self):
        for kind in KINDS:
            self.assertEqual(all_rows((kind, []), 7), [[]])
            self.assertEqual([how_many_rows((kind, []), 1), choices_left((kind, []), 1, [])], [1, []])
            self.assertEqual([row_numbered((kind, []), 3, 0), row_numbered((kind, []), 3, 1)], [[], None])
            self.assertEqual([number_of_row((kind, []), 3, []), next_row((kind, []), 3, [])], [0, None])
            self.assertEqual([how_many_with((kind, []), 3, []), keeps_row((kind, []), 3, [])], [1, True])
            self.assertEqual(all_rows((kind, [("a", "b", 0, 1)]), 1), [[0, 0]])
            self.assertEqual(all_rows((kind, [("a", "b", 5, 0)]), 1), [[0, 0]])
            self.assertEqual(all_rows((kind, [("a", "b", 0, 1)]), 2), [[0, 0], [0, 1], [1, 0], [1, 1]])
            self.assertEqual(all_rows((kind, [("b", "a", 1, 2), ("b", "a", 1, 2)]), 2), [[0, 1], [1, 0]])
        self.assertEqual(choices_left(("bits", [("a", "b", 1, 6)]), 6, ["b", "a"]), [4, 1])
        self.assertEqual(how_many_rows(("bits", [("a", "b", 1, 3)]), 15), 32)

    def test_two_thousand(self):
        idle = [("a", "b", 0, 1), ("b", "c", 0, 1)]
        for lines, period, many in ((idle, 12, 1728), (idle[:1], 44, 1936), (idle[:1], 45, 2025), (idle, 13, 2197)):
            self.assertEqual(how_many_rows(("hours", lines), period), many)
            if many <= 2000:
                self.assertEqual(len(all_rows(("hours", lines), period)), many)
            else:
                with self.assertRaises(TooMany) as caught:
                    all_rows(("hours", lines), period)
                self.assertEqual(caught.exception.value, many)
        self.assertEqual(len(all_rows(("hours", [("a", "b", 1, 2000)]), 2000)), 2000)
        self.assertRaises(TooMany, all_rows, ("hours", [("a", "b", 1, 2001)]), 2001)
        self.assertEqual(len(all_rows(("bits", idle[:1]), 32)), 1024)
        with self.assertRaises(TooMany) as caught:
            all_rows(("bits", idle[:1]), 64)
        self.assertEqual(caught.exception.value, 4096)


class Great(unittest.TestCase):
    def test_rows_of_thirty_figures(self):
        """They are told without going through rows."""
        rng = random.Random(115)
        begun = time.time()
        for kind in KINDS:
            for shared in (0, 1, 6, 60):
                lines = [line_of(kind, *line[:3], shared) for line in great_book(rng, kind, shared)[1]]
                book = (kind, lines)
                period = 60 * 10 ** 28 if kind == "hours" else times(kind, 60, rng.getrandbits(90) | 1)
                many = how_many_rows(book, period)
                names = great_names(12)
                rng.shuffle(names)
                self.assertEqual(math.prod(choices_left(book, period, names)), many)
                for number in [0, 1, many - 1, rng.randrange(many), many // 2]:
                    row = row_numbered(book, period, number)
                    self.assertIs(keeps_row(book, period, row), True)
                    self.assertEqual(number_of_row(book, period, row), number)
                    self.assertEqual(next_row(book, period, row), row_numbered(book, period, number + 1))
                    some = dict(zip(sorted(names), row))
                    told = [(name, sum_of(kind, some[name], period)) for name in sorted(names[:5])]
                    self.assertEqual(how_many_with(book, period, told) * how_many_with(book, period, told[:0]) // many,
                                     math.prod(choices_left(book, period, names)[5:]))
                self.assertIsNone(row_numbered(book, period, many))
                self.assertRaises(TooMany, all_rows, book, period)
        self.assertLess(time.time() - begun, 10)

    def test_great_bys(self):
        rng = random.Random(116)
        begun = time.time()
        for kind in KINDS:
            for shared in (1, 60):
                book = great_book(rng, kind, shared)
                period = least_period(book)
                self.assertTrue(all(goes_into(kind, line[3], period) for line in book[1]))
                many = how_many_rows(book, period)
                row = row_numbered(book, period, many - 1)
                self.assertEqual(number_of_row(book, period, row), many - 1)
                self.assertIsNone(next_row(book, period, row))
        self.assertLess(time.time() - begun, 10)


class Refused(unittest.TestCase):
    def test_refused(self):
        for kind in KINDS:
            begin = [("book", BOOK[kind], BOOKS), ("period", PERIOD[kind], [(InvalidPeriod, NO_PERIODS[kind])])]
            check_refusals(self, how_many_rows, begin)
            check_refusals(self, all_rows, [("book", BOOK[kind], BOOKS),
                                            ("period", PERIOD[kind], [(InvalidPeriod, NO_PERIODS[kind])])])
            check_refusals(self, keeps_row, begin + [("value", None, [])])
            check_refusals(self, choices_left, begin + [("names", ["c", "a", "b"], [(InvalidNames, ORDERS)])])
            check_refusals(self, row_numbered, begin + [("number", 3, [(InvalidNumber, NO_COUNTS)])])
            wrong = [row for row in NO_ROWS if kind == "hours" or row != [0, 7, 2]] + [ODD[kind]]
            for function in (number_of_row, next_row):
                check_refusals(self, function, begin + [("row", ROW[kind], [(InvalidRow, wrong)])])
            numbers = WRONG_NUMBERS_OF[kind] + [[("a", 1), ("x", 1)], [("x", 0)]]
            check_refusals(self, how_many_with, begin + [("numbers", [("b", 2)], [(InvalidNumbers, numbers)])])
        check_refusals(self, least_period, [("book", BOOK["hours"], BOOKS)])

    def test_wrong_rows(self):
        for kind in KINDS:
            self.assertIs(keeps_row(BOOK[kind], PERIOD[kind], ROW[kind]), True)
            for value in NO_ROWS:
                self.assertIs(keeps_row(BOOK[kind], PERIOD[kind], value), False, (kind, value))

    def test_too_many_behind_wrong_periods(self):
        lines = [("a", "b", 0, 64)]
        for kind in KINDS:
            for wrong in (0, 32, 65, True):
                self.assertRaises(InvalidPeriod, all_rows, (kind, lines), wrong)
            self.assertRaises(TooMany, all_rows, (kind, lines), 64 * 64)

    def test_books_at_odds_are_none(self):
        """No function of rows tells that a book is at odds: it has no rows."""
        for kind in KINDS:
            period = least_period(ODD[kind])
            self.assertEqual([how_many_rows(ODD[kind], period), all_rows(ODD[kind], period)], [0, []])
            self.assertEqual(how_many_with(ODD[kind], period, [("a", 1)]), 0)
            self.assertIsNone(row_numbered(ODD[kind], period, 0))
            self.assertIs(keeps_row(ODD[kind], period, [0, 3, 8]), False)
            self.assertRaises(InvalidRow, number_of_row, ODD[kind], period, [0, 3, 8])
            self.assertRaises(InvalidRow, next_row, ODD[kind], period, [0, 3, 8])


if __name__ == "__main__":
    unittest.main()
