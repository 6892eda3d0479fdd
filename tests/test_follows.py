"""[25] to [28]: equal books, needless lines, weights, worths and unlike numbers."""

import itertools
import random
import time
import unittest

from hourrings.closed import closed, closed_line, closed_with, follows, news_of
from hourrings.errors import AtOdds, InvalidBook, InvalidLine, InvalidLines, InvalidNames, InvalidNumber, Unlike
from hourrings.follows import (are_equal, are_unlike_numbers, least_books, needless, parting_line, shares,
                               unlike_numbers, weight, worth, worths)
from hourrings.rings import can_be_kept
from tests.trying import (BOOKS, KINDS, ODD, SPANS, THINGS, WRONG_BOOKS, WRONG_LINES, WRONG_LINES_LISTS, check_at_odds,
                          check_fresh, check_refusals, check_refused, difference, drawn_line, goes_into, great_book,
                          great_names, great_number, keeps_line, lcm_of, line_of, lots, names_of, sum_of, times,
                          told_book, tried, tried_books, tried_closed)

GOOD = {"hours": ("hours", [("a", "b", 3, 12), ("b", "c", 5, 18), ("a", "c", 0, 4)]),
        "bits": ("bits", [("a", "b", 1, 6), ("b", "c", 2, 10), ("a", "c", 1, 2)])}
BYS = {"hours": [0, 1, 2, 3, 4, 6, 12], "bits": [0, 1, 2, 3, 4, 5, 6, 10, 12]}
ORDERS = [None, True, 0, "", "abc", (), ("a", "b", "c"), {}, {"a": 1, "b": 2, "c": 3}, [], ["a"], ["a", "b"],
          ["a", "b", "c", "c"], ["a", "b", "b"], ["a", "b", "d"], ["a", "b", "c", "d"], ["a", "b", None], ["a", "b", 3],
          ["a", "b", ["c"]], ["a", "b", ("c",)], ["A", "b", "c"], ["a", "b", True], [("a", 1), ("b", 2), ("c", 3)]]
NUMBER_ORDERS = [None, True, 0, "", "012", (), (0, 1, 2), {}, {0: 1, 1: 1, 2: 1}, [], [0, 1], [0, 1, 1], [0, 1, 2, 3],
                 [1, 2, 3], [0, 1, -1], [0, True, 2], [False, 1, 2], [0, 1, "2"], [0, 1, None], [0, 1, [2]],
                 [[0, 1, 2]], [0, 1, InvalidNumber(2)]]


def rows_of(book, names):
    return tried(book[0], book[1], names, SPANS[book[0]])


def changed(rng, book):
    """A book that is told otherwise, and most often tells the same."""
    kind, lines = book
    lines = lines + rng.sample(closed(book), rng.randint(0, len(closed(book))))
    lines = [line if rng.random() < 0.5 else line_of(kind, line[1], line[0], difference(kind, 0, line[2]), line[3])
             for line in lines]
    rng.shuffle(lines)
    if rng.random() < 0.3:
        lines = lines[1:]
    return (kind, lines)


class Equal(unittest.TestCase):
    def test_by_trying(self):
        seen = []
        for rng, one, _ in tried_books(51, 60):
            kind = one[0]
            other = changed(rng, one) if rng.random() < 0.7 else told_book(rng, kind, ["a", "b", "c"], 3)
            names = ["a", "b", "c"]
            found = [rows_of(book, names) for book in (one, other)]
            self.assertIs(are_equal(one, other), found[0] == found[1], (one, other))
            self.assertIs(are_equal(other, one), found[0] == found[1])
            self.assertIs(closed(one) == closed(other), found[0] == found[1])
            self.assertEqual(parting_line(one, other), self.tried_parting(one, other, found))
            seen.append(found[0] == found[1])
            check_fresh(self, are_equal, one, other)
            check_fresh(self, parting_line, one, other)
        self.assertGreater(min(seen.count(True), seen.count(False)), 20)

    def tried_parting(self, one, other, found):
        for at, book in enumerate((one, other)):
            rows = tried(book[0], book[1], names_of(book[1]), SPANS[book[0]])
            for line in tried_closed(book[0], book[1], rows):
                if not all(keeps_line(book[0], line, row) for row in found[1 - at]):
                    return (at, line)
        return None

    def test_lines_that_say_nothing(self):
        for kind in KINDS:
            empty, idle = (kind, []), (kind, [("a", "b", 0, 1), ("x", "y", 0, 1)])
            self.assertIs(are_equal(empty, idle), True)
            self.assertIsNone(parting_line(idle, empty))
            self.assertIs(are_equal(empty, empty), True)
            self.assertIs(are_equal((kind, [("a", "b", 1, 2)]), (kind, [("b", "a", 1, 2), ("b", "a", 1, 2)])), True)
            self.assertEqual(parting_line(empty, (kind, [("b", "a", 1, 2), ("c", "a", 1, 4)])), (1, ("a", "b", 1, 2)))
            self.assertEqual(parting_line((kind, [("c", "a", 1, 4)]), (kind, [("a", "b", 0, 2)])),
                             (0, ("a", "c", 3 if kind == "hours" else 1, 4)))

    def test_refused(self):
        for kind in KINDS:
            other_kind = "bits" if kind == "hours" else "hours"
            book, of_other = (kind, [("a", "b", 1, 2)]), (other_kind, [("a", "b", 1, 2)])
            for function in (are_equal, parting_line):
                check_refusals(self, function, [("one", book, BOOKS),
                                                ("other", book, BOOKS + [(Unlike, [of_other, ODD[other_kind]])])])
                check_refused(self, function, Unlike, of_other, ["one", "other"], [ODD[kind], of_other])
                for wrong in WRONG_BOOKS:
                    check_refused(self, function, InvalidBook, wrong, ["one", "other"], [ODD[kind], wrong])
                odd = (kind, list(ODD[kind][1]))
                for one, other, first in ((odd, book, odd), (book, odd, odd), (odd, ODD[kind], odd)):
                    check_refused(self, function, AtOdds, first, ["one", "other"], [one, other])


class Needless(unittest.TestCase):
    def test_by_trying(self):
        found = 0
        for _, book, _ in tried_books(52, 50):
            kind, lines = book
            expected = []
            for at, line in enumerate(lines):
                rows = tried(kind, lines[:at] + lines[at + 1:], ["a", "b", "c"], SPANS[kind])
                if all(keeps_line(kind, line, row) for row in rows):
                    expected.append(at)
            self.assertEqual(needless(book), expected, book)
            check_fresh(self, needless, book)
            found += len(expected)
        self.assertGreater(found, 50)

    def test_least_books(self):
        unlike = 0
        for _, book, rows in tried_books(53, 40, 6):
            kind, lines = book
            names = names_of(lines)
            same = [lot for lot in lots(len(lines))
                    if tried(kind, [lines[at] for at in lot], names, SPANS[kind]) == rows]
            least = sorted(lot for lot in same if not any(set(less) < set(lot) for less in same))
            self.assertEqual(check_fresh(self, least_books, book), least)
            for at in range(len(lines)):
                self.assertIs(all(at in lot for lot in least), at not in needless(book))
            for lot in least:
                some = (kind, [lines[at] for at in lot])
                self.assertEqual(closed(some), closed(book))
                self.assertEqual(needless(some), [])
            unlike += len({len(lot) for lot in least}) > 1
        self.assertGreater(unlike, 0)

    def test_edges(self):
        for kind in KINDS:
            self.assertEqual([needless((kind, [])), least_books((kind, []))], [[], [[]]])
            self.assertEqual([needless((kind, [("a", "b", 0, 1)])), least_books((kind, [("a", "b", 0, 1)]))],
                             [[0], [[]]])
            self.assertEqual([needless((kind, [("a", "b", 1, 2)])), least_books((kind, [("a", "b", 1, 2)]))],
                             [[], [[0]]])
            same = (kind, [("a", "b", 1, 2), ("b", "a", 1, 2)] * 4)
            self.assertEqual([needless(same), least_books(same)], [list(range(8)), [[at] for at in range(8)]])
            exact = (kind, [("a", "b", 1, 0), ("a", "b", 1, 2), ("a", "b", 0, 1)])
            self.assertEqual([needless(exact), least_books(exact)], [[1, 2], [[0]]])
        self.assertEqual(least_books(("hours", [("a", "b", 0, 2), ("a", "b", 0, 3), ("a", "b", 0, 6)])), [[0, 1], [2]])

    def test_many_lines(self):
        """Twelve lines of which each one alone says what two others say: all lots are gone through within seconds."""
        begun = time.time()
        lines = [("a", "b", 0, by) for by in (2, 3, 6, 4, 12, 5)]
        self.assertEqual(least_books(("hours", lines)), [[1, 3, 5], [2, 3, 5], [4, 5]])
        self.assertEqual(least_books(("hours", [("a", "b", 0, 2), ("a", "c", 0, 4), ("b", "c", 0, 2)] * 3)),
                         sorted(sorted([far, at]) for far in (1, 4, 7) for at in (0, 2, 3, 5, 6, 8)))
        self.assertLess(time.time() - begun, 5)

    def test_refused(self):
        for kind in KINDS:
            for function in (needless, least_books, weight):
                check_refusals(self, function, [("book", GOOD[kind], BOOKS)])
                check_at_odds(self, function, [("book", ODD[kind], [])])


def multiplied(kind, counts):
    total = 1
    for count in counts:
        total = times(kind, total, count)
    return total


class Weights(unittest.TestCase):
    def test_all_orders(self):
        for _, book, rows in tried_books(54, 40):
            kind, lines = book
            names = names_of(lines)
            whole = check_fresh(self, weight, book)
            bys = {line[:2]: line[3] for line in tried_closed(kind, lines, rows)}
            for order in itertools.permutations(names):
                expected = []
                for at, name in enumerate(order):
                    by = 1
                    for other in order[:at]:
                        by = lcm_of(kind, by, bys.get((min(name, other), max(name, other)), 1))
                    expected.append(by)
                self.assertEqual(check_fresh(self, shares, book, list(order)), expected)
                self.assertEqual(multiplied(kind, expected), whole)

    def test_rows_of_a_period(self):
        """Of the rows of a period, one among as many as the weight tells keeps the book."""
        for _, book, _ in tried_books(55, 60):
            kind, lines = book
            names = names_of(lines)
            period = multiplied(kind, [])
            for line in lines:
                period = lcm_of(kind, period, line[3])
            if period == 0 or not names:
                self.assertEqual(weight(book) == 0, bool(names))
                continue
            many = period if kind == "hours" else 1 << period.bit_length() - 1
            keeping = len(tried(kind, lines, names, range(many)))
            share = weight(book) if kind == "hours" else 1 << weight(book).bit_length() - 1
            self.assertEqual(keeping * share, many ** (len(names) - 1), book)

    def test_edges(self):
        for kind in KINDS:
            self.assertEqual([weight((kind, [])), shares((kind, []), [])], [1, []])
            idle = (kind, [("a", "b", 0, 1)])
            self.assertEqual([weight(idle), shares(idle, ["b", "a"])], [1, [1, 1]])
            exact = (kind, [("a", "b", 5, 0), ("b", "c", 0, 2)])
            self.assertEqual([weight(exact), shares(exact, ["c", "b", "a"])], [0, [1, 2, 0]])
        self.assertEqual(weight(("bits", [("a", "b", 1, 3), ("a", "c", 1, 3)])), 5)

    def test_great_books(self):
        rng = random.Random(56)
        begun = time.time()
        for kind in KINDS:
            for shared in (0, 1, 6, 60):
                book = great_book(rng, kind, shared)
                names = great_names(12)
                whole = weight(book)
                for _ in range(3):
                    rng.shuffle(names)
                    self.assertEqual(multiplied(kind, shares(book, names)), whole)
                    order = rng.sample(range(40), 40)
                    self.assertEqual(multiplied(kind, worths(book, order)), whole)
                first = needless(book)[:1]
                left = (kind, [line for at, line in enumerate(book[1]) if at not in first])
                self.assertIs(are_equal(left, book), True)
                self.assertIsNone(parting_line(book, left))
        self.assertLess(time.time() - begun, 20)

    def test_refused(self):
        for kind in KINDS:
            parameters = [("order", ["c", "a", "b"], [(InvalidNames, ORDERS)])]
            check_refusals(self, shares, [("book", GOOD[kind], BOOKS)] + parameters)
            check_at_odds(self, shares, [("book", ODD[kind], [])] + parameters)


class Worths(unittest.TestCase):
    def test_with_a_line_more(self):
        seen = []
        for rng, book, _ in tried_books(57, 60):
            kind, lines = book
            for _ in range(8):
                line = drawn_line(rng, kind, ["a", "b", "c", "x"], BYS[kind])
                told = worth(book, line)
                if news_of(book, line) == "never":
                    self.assertIsNone(told)
                    continue
                known = closed_line(book, *line[:2])[3]
                self.assertIs(told == 1, follows(book, line))
                self.assertIs(told == 0, line[3] == 0 and known != 0)
                self.assertEqual(times(kind, known, told), lcm_of(kind, known, line[3]))
                both = (kind, lines + [line])
                self.assertEqual(weight(both), times(kind, weight(book), told))
                self.assertEqual(closed_with(book, line), closed(both))
                seen.append(min(told, 2))
                check_fresh(self, worth, book, line)
        self.assertEqual(set(seen), {0, 1, 2})

    def test_all_orders(self):
        for rng, book, _ in tried_books(58, 25, 4):
            kind, lines = book
            alone = [worth((kind, []), line) for line in lines]
            for order in itertools.permutations(range(len(lines))):
                told = worths(book, list(order))
                self.assertEqual(multiplied(kind, told), weight(book))
                for at, number in enumerate(order):
                    ahead = (kind, [lines[other] for other in order[:at]])
                    self.assertEqual(told[at], worth(ahead, lines[number]))
                    # Of 0 each number is a divisor, and 0 of no other one.
                    self.assertTrue(goes_into(kind, told[at], alone[number]) or told[at] == alone[number] == 0)
            order = rng.sample(range(len(lines)), len(lines))
            check_fresh(self, worths, book, order)

    def test_fewer_with_more_ahead(self):
        for rng, book, _ in tried_books(59, 40):
            kind, lines = book
            line = drawn_line(rng, kind, ["a", "b", "c"], BYS[kind])
            if not can_be_kept((kind, lines + [line])):
                continue
            was = 0
            for many in range(len(lines) + 1):
                told = worth((kind, lines[:many]), line)
                self.assertTrue(told == 0 == was or told != 0 and goes_into(kind, told, was))
                was = told

    def test_edges(self):
        for kind in KINDS:
            self.assertEqual(worth((kind, []), ("x", "y", 1, 2)), 2)
            self.assertEqual(worth((kind, []), ("x", "y", 1, 0)), 0)
            self.assertEqual(worth((kind, []), ("x", "y", 0, 1)), 1)
            exact = (kind, [("a", "b", 5, 0)])
            self.assertEqual([worth(exact, ("b", "a", 1, 2)), worth(exact, ("a", "b", 5, 0)),
                              worth(exact, ("a", "b", 0, 2)), worth(exact, ("b", "a", 2, 0))], [1, 1, None, None])
            self.assertEqual(worths((kind, []), []), [])
            self.assertEqual(worths((kind, [("a", "b", 1, 2)] * 3), [2, 0, 1]), [2, 1, 1])
            self.assertEqual(worths((kind, [("a", "b", 1, 0), ("b", "a", 1, 2)]), [1, 0]), [2, 0])

    def test_refused(self):
        for kind in KINDS:
            lines = [("line", ("a", "b", 0, 1), [(InvalidLine, WRONG_LINES[kind])])]
            check_refusals(self, worth, [("book", GOOD[kind], BOOKS)] + lines)
            check_at_odds(self, worth, [("book", ODD[kind], [])] + lines)
            orders = [("order", [2, 0, 1], [(InvalidNumber, NUMBER_ORDERS)])]
            check_refusals(self, worths, [("book", GOOD[kind], BOOKS)] + orders)
            check_at_odds(self, worths, [("book", ODD[kind], [])] + orders)


def is_unlike(book, lines, value):
    kind = book[0]
    names = names_of(book[1] + lines)
    if not isinstance(value, list) or not all(isinstance(item, tuple) and len(item) == 2 for item in value):
        return False
    if [item[0] for item in value] != names:
        return False
    if not all(type(number) is int and (kind == "hours" or number >= 0) for _, number in value):
        return False
    told = dict(value)
    kept = all(keeps_line(kind, line, told) for line in book[1])
    return kept and not any(keeps_line(kind, line, told) for line in lines)


class UnlikeNumbers(unittest.TestCase):
    def check(self, book, lines, news):
        """News are those of the lines alone."""
        answer = check_fresh(self, unlike_numbers, book, lines)
        self.assertIs(answer is None, "sure" in news, (book, lines))
        if answer is None:
            return
        self.assertTrue(is_unlike(book, lines, answer), (book, lines, answer))
        self.assertIs(are_unlike_numbers(book, lines, answer), True)
        bent = [None, (), [], tuple(answer), dict(answer), answer[1:], answer[::-1], answer + [("zz", 0)],
                [list(item) for item in answer], [(name, bool(number)) for name, number in answer]]
        for at, (name, number) in enumerate(answer):
            for more in (1, 2, -1, 6):
                bent.append(answer[:at] + [(name, number + more)] + answer[at + 1:])
        for value in bent:
            self.assertIs(are_unlike_numbers(book, lines, value), is_unlike(book, lines, value), (book, lines, value))

    def test_by_trying(self):
        none = 0
        for rng, book, rows in tried_books(60, 80):
            kind = book[0]
            names = names_of(book[1]) or ["a", "b"]
            lines = [drawn_line(rng, kind, names, [0]) for _ in range(rng.randint(0, 6))]
            news = []
            for line in lines:
                kept = [keeps_line(kind, line, row) for row in rows] if names_of(book[1]) else [True, False]
                news.append("sure" if all(kept) else "open")
            self.check(book, lines, news)
            none += "sure" in news
        self.assertGreater(none, 5)

    def test_further_names(self):
        rng = random.Random(61)
        for kind in KINDS:
            for _ in range(60):
                book = told_book(rng, kind, ["a", "b", "c"], 4)
                lines = [drawn_line(rng, kind, ["a", "b", "x", "y"], [0]) for _ in range(rng.randint(1, 12))]
                self.check(book, lines, [news_of(book, line) for line in lines])

    def test_many_lines(self):
        for kind in KINDS:
            numbers = range(-5, 6) if kind == "hours" else range(11)
            for by in (0, 1, 2, 3):
                book = (kind, [("a", "b", 0, by), ("b", "c", 0, 0)])
                lines = [("a", "c", number, 0) for number in numbers if by or number] + [("c", "x", 0, 0)]
                self.check(book, lines, [])
                self.assertIsNone(unlike_numbers(book, lines + [("c", "b", 0, 0)]))
            # Names that exact lines join move together: what bars one of them bars all.
            lines = [(one, other, number, 0) for one in "abc" for other in "xyz" for number in (0, 1)]
            book = (kind, [("a", "b", 1, 0), ("b", "c", 1, 0), ("x", "y", 2, 0), ("y", "z", 2, 0), ("a", "x", 0, 2)])
            self.check(book, lines[:12], [])
            self.check(book, lines, [])

    def test_edges(self):
        for kind in KINDS:
            self.assertEqual(unlike_numbers((kind, []), []), [])
            self.assertIs(are_unlike_numbers((kind, []), [], []), True)
            self.check((kind, []), [("a", "b", 0, 0)], [])
            self.check((kind, [("a", "b", 0, 1)]), [], [])
            self.check((kind, [("a", "b", 1, 0)]), [("a", "b", 1, 0)], ["sure"])
            self.check((kind, [("a", "b", 1, 0)]), [("b", "a", 3, 0), ("a", "c", 0, 0)], ["never", "open"])
        for value in THINGS + [7, [("a", 0)]]:
            self.assertIs(are_unlike_numbers(("hours", [("a", "b", 1, 2)]), [], value), False, value)

    def test_great_books(self):
        rng = random.Random(62)
        begun = time.time()
        names = great_names(12)
        for kind in KINDS:
            for shared in (0, 1, 60):
                book = great_book(rng, kind, shared)
                answer = unlike_numbers(book, [])
                lines = []
                for _ in range(12):
                    one, other = rng.sample(names, 2)
                    number = difference(kind, dict(answer)[other], dict(answer)[one])
                    number = number if shared else sum_of(kind, number, great_number(rng, kind))
                    lines.append((one, other, number, 0))
                other = unlike_numbers(book, lines)
                self.assertIs(other is None, any(follows(book, line) for line in lines))
                self.assertIs(are_unlike_numbers(book, lines, other), other is not None)
        self.assertLess(time.time() - begun, 10)

    def test_refused(self):
        for kind in KINDS:
            wrong = WRONG_LINES_LISTS[kind] + [[("a", "b", 1, 2)], [("a", "b", 1, 0), ("a", "b", 0, 1)]]
            lines = [("lines", [("a", "b", 1, 0)], [(InvalidLines, wrong)])]
            check_refusals(self, unlike_numbers, [("book", GOOD[kind], BOOKS)] + lines)
            check_at_odds(self, unlike_numbers, [("book", ODD[kind], [])] + lines)
            lines += [("value", None, [])]
            check_refusals(self, are_unlike_numbers, [("book", GOOD[kind], BOOKS)] + lines)
            check_at_odds(self, are_unlike_numbers, [("book", ODD[kind], [])] + lines)


if __name__ == "__main__":
    unittest.main()
