"""[21] to [24]: closed books and what follows."""

import copy
import itertools
import random
import time
import unittest

from hourrings.closed import are_two_rows, closed, closed_line, closed_with, follows, news_of, two_rows
from hourrings.errors import AtOdds, InvalidLine, InvalidName
from hourrings.rings import can_be_kept, way_line
from tests.test_rings import is_tried_way, rows_of_steps
from tests.trying import (BOOKS, KINDS, ODD, SPANS, THINGS, WRONG_LINES, WRONG_NAMES, check_fresh, check_refusals,
                          difference, drawn_book, drawn_line, gcd_of, goes_into, great_book, great_names, great_number,
                          keeps_line, lcm_of, line_of, names_of, rest_of, sum_of, told_book, tried, tried_books,
                          tried_closed, tried_line)

THREE = ("hours", [("a", "b", 3, 12), ("b", "c", 5, 18), ("a", "c", 0, 4)])
BYS = {"hours": [0, 1, 2, 3, 4, 6, 12, 24], "bits": [0, 1, 2, 3, 4, 5, 6, 10, 12, 24]}


class Closed(unittest.TestCase):
    def test_by_trying(self):
        for _, book, rows in tried_books(31, 60):
            kind, lines = book
            self.assertEqual(closed(book), tried_closed(kind, lines, rows), book)
            for one, other in itertools.permutations(names_of(lines), 2):
                self.assertEqual(closed_line(book, one, other), tried_line(kind, rows, one, other))
            check_fresh(self, closed, book)

    def test_four_names(self):
        """What all ways tell, met: from the lines of all ways, each gone along."""
        rng = random.Random(32)
        for kind in KINDS:
            for _ in range(6):
                book = told_book(rng, kind, ["a", "b", "c", "d"], 4)
                found = {}
                for steps in rows_of_steps(book[1], 3):
                    if is_tried_way(book[1], steps):
                        one, other, _, _ = line = way_line(book, steps)
                        found.setdefault((one, other), []).append(line)
                for pair, lines in found.items():
                    line = closed_line(book, *pair)
                    self.assertEqual(line[:2], pair)
                    by = 1
                    for told in lines:
                        by = lcm_of(kind, by, told[3])
                        self.assertTrue(goes_into(kind, told[3], difference(kind, line[2], told[2])))
                    self.assertEqual(line[3], by)

    def test_drawn_books_at_odds(self):
        rng = random.Random(33)
        for kind in KINDS:
            odd = 0
            for _ in range(100):
                book = drawn_book(rng, kind, ["a", "b", "c"], 6)
                if tried(kind, book[1], names_of(book[1]), SPANS[kind]):
                    closed(book)
                    continue
                odd += 1
                with self.assertRaises(AtOdds) as caught:
                    closed(book)
                self.assertIs(caught.exception.value, book)
            self.assertGreater(odd, 20)

    def test_names_that_no_line_has(self):
        for kind in KINDS:
            book = (kind, [("a", "b", 1, 2), ("c", "d", 1, 4)])
            for one, other in (("a", "x"), ("x", "a"), ("x", "y"), ("a", "c"), ("d", "b")):
                self.assertEqual(closed_line(book, one, other), (one, other, 0, 1))
            self.assertEqual(closed_line((kind, []), "a", "b"), ("a", "b", 0, 1))
            self.assertEqual(closed((kind, [])), [])
            self.assertEqual(closed((kind, [("a", "b", 0, 1), ("b", "c", 0, 1)])), [])
            self.assertEqual(closed((kind, [("b", "a", 1, 2)])), [("a", "b", 1, 2)])

    def test_exact_lines(self):
        self.assertEqual(closed(("hours", [("b", "a", 5, 0), ("c", "b", -2, 0), ("d", "c", 1, 3)])),
                         [("a", "b", -5, 0), ("a", "c", -3, 0), ("a", "d", 2, 3), ("b", "c", 2, 0), ("b", "d", 1, 3),
                          ("c", "d", 2, 3)])
        self.assertEqual(closed(("bits", [("b", "a", 5, 0), ("c", "b", 3, 0), ("d", "c", 1, 4)])),
                         [("a", "b", 5, 0), ("a", "c", 6, 0), ("a", "d", 3, 4), ("b", "c", 3, 0), ("b", "d", 2, 4),
                          ("c", "d", 1, 4)])

    def test_a_third_unknown(self):
        for _, book, _ in tried_books(34, 40):
            kind = book[0]
            for one, mid, other in itertools.permutations("abc", 3):
                by = gcd_of(kind, closed_line(book, one, mid)[3], closed_line(book, mid, other)[3])
                self.assertTrue(goes_into(kind, by, closed_line(book, one, other)[3]))

    def test_closed_once_more(self):
        for _, book, _ in tried_books(35, 40):
            self.assertEqual(closed((book[0], closed(book))), closed(book))
            self.assertEqual(closed((book[0], book[1][::-1] + book[1])), closed(book))


class OneLineMore(unittest.TestCase):
    def test_by_trying(self):
        for rng, book, rows in tried_books(36, 40):
            kind, lines = book
            for _ in range(6):
                line = drawn_line(rng, kind, ["a", "b", "c"], BYS[kind][:-1])
                both = lines + [line]
                found = tried(kind, both, names_of(both), SPANS[kind])
                answer = check_fresh(self, closed_with, book, line)
                if not found:
                    self.assertIsNone(answer)
                    self.assertIs(can_be_kept((kind, both)), False)
                    continue
                self.assertEqual(answer, closed((kind, both)))
                if line[3] not in (12, 24):
                    self.assertEqual(answer, tried_closed(kind, both, found), (book, line))
                grown = {told[:2]: told[3] for told in answer}
                for told in closed(book):
                    self.assertTrue(goes_into(kind, told[3], grown[told[:2]]))

    def test_further_names(self):
        self.assertEqual(closed_with(THREE, ("x", "b", 1, 6)), closed(("hours", THREE[1] + [("x", "b", 1, 6)])))
        self.assertEqual(closed_with(THREE, ("x", "y", 1, 6)), closed(THREE) + [("x", "y", 1, 6)])
        self.assertEqual(closed_with(THREE, ("x", "y", 0, 1)), closed(THREE))
        self.assertEqual(closed_with(("bits", []), ("b", "a", 3, 4)), [("a", "b", 3, 4)])

    def test_four_names(self):
        rng = random.Random(37)
        for kind in KINDS:
            for _ in range(150):
                book = told_book(rng, kind, ["a", "b", "c", "d", "e"], 8)
                line = drawn_line(rng, kind, ["a", "b", "c", "d", "e", "f"], BYS[kind])
                both = (kind, book[1] + [line])
                self.assertEqual(closed_with(book, line), closed(both) if can_be_kept(both) else None)


def tried_news(kind, rows, line):
    kept = [keeps_line(kind, line, row) for row in rows]
    return "sure" if all(kept) else "open" if any(kept) else "never"


class News(unittest.TestCase):
    def test_by_trying(self):
        seen = []
        for rng, book, rows in tried_books(38, 40):
            kind, lines = book
            names = names_of(lines)
            for one, other in itertools.permutations(names, 2):
                for by in BYS[kind][:-2]:
                    ahead = range(-2, 3) if kind == "hours" else range(4)
                    if by:
                        ahead = range(by if kind == "hours" else 1 << by.bit_length() - 1)
                    for told in rng.sample(list(ahead), min(3, len(ahead))):
                        line = (one, other, told, by)
                        news = tried_news(kind, rows, line)
                        self.assertEqual(news_of(book, line), news, (book, line))
                        self.assertIs(follows(book, line), news == "sure")
                        seen.append(news)
        self.assertGreater(min(seen.count(news) for news in ("sure", "open", "never")), 100)

    def test_names_that_no_line_has(self):
        for kind in KINDS:
            book = (kind, [("a", "b", 1, 2)])
            for pair in (("a", "x"), ("x", "b"), ("x", "y")):
                for told in ((0, 1), (1, 2), (0, 2), (5, 0)):
                    self.assertEqual(news_of(book, (*pair, *told)), "sure" if told == (0, 1) else "open")
                    self.assertIs(follows(book, (*pair, *told)), told == (0, 1))


def is_row(kind, names, value):
    if not isinstance(value, list) or not all(isinstance(item, tuple) for item in value):
        return False
    whole = all(type(number) is int and (kind == "hours" or number >= 0) for _, number in value)
    return whole and [name for name, _ in value] == names


class TwoRows(unittest.TestCase):
    def check(self, book, line, news):
        kind, lines = book
        names = names_of(lines + [line])
        answer = check_fresh(self, two_rows, book, line)
        self.assertIsInstance(answer, tuple)
        keeping, without = answer
        self.assertIs(keeping is None, news == "never")
        self.assertIs(without is None, news == "sure")
        for row, right in ((keeping, True), (without, False)):
            if row is not None:
                told = dict(row)
                self.assertEqual([name for name, _ in row], names)
                self.assertTrue(all(keeps_line(kind, item, told) for item in lines))
                self.assertIs(keeps_line(kind, line, told), right)
        self.assertIs(are_two_rows(book, line, answer), True)
        self.check_bent(book, line, answer)

    def check_bent(self, book, line, answer):
        kind, lines = book
        for at, row in enumerate(answer):
            if row is None:
                others = [[], [(name, 0) for name in names_of(lines + [line])]]
            else:
                others = [None, [], row[1:], row[::-1], row + [("zz", 0)], tuple(row), [list(item) for item in row],
                          [(name, bool(number)) for name, number in row]]
                for place, (name, number) in enumerate(row):
                    others.append(row[:place] + [(name, number + 1)] + row[place + 1:])
            for other in others:
                value = (other, answer[1]) if at == 0 else (answer[0], other)
                right = is_row(kind, names_of(lines + [line]), other)
                if right:
                    told = dict(other)
                    right = all(keeps_line(kind, item, told) for item in lines)
                    right = right and keeps_line(kind, line, told) is (at == 0)
                self.assertIs(are_two_rows(book, line, value), right, (book, line, value))

    def test_by_trying(self):
        for rng, book, rows in tried_books(39, 40):
            kind, lines = book
            names = names_of(lines)
            for _ in range(8):
                line = drawn_line(rng, kind, names or ["a", "b"], BYS[kind][:-2])
                self.check(book, line, tried_news(kind, rows, line) if names else news_of(book, line))

    def test_further_names(self):
        rng = random.Random(40)
        for kind in KINDS:
            for _ in range(30):
                book = told_book(rng, kind, ["a", "b", "c"], 4)
                line = drawn_line(rng, kind, ["a", "c", "x", "y"], BYS[kind])
                self.check(book, line, news_of(book, line))

    def test_wrong_forms(self):
        line = ("a", "b", 15, 24)
        keeping, without = two_rows(THREE, line)
        wrong = THINGS + [(keeping,), (keeping, without, None), [keeping, without], (without, keeping),
                          (keeping, keeping), (without, without), (None, None), (keeping, None), (None, without),
                          ((keeping, without),), (dict(keeping), dict(without)), 7]
        for value in wrong:
            self.assertIs(are_two_rows(THREE, line, value), False, value)
        self.assertIs(are_two_rows(THREE, line, (keeping, without)), True)
        odd, even, below = ([("a", 0), ("b", number)] for number in (1, 0, -2))
        line = ("a", "b", 1, 2)
        self.assertIs(are_two_rows(("bits", []), line, (odd, even)), True)
        self.assertIs(are_two_rows(("bits", []), line, (odd, below)), False)
        self.assertIs(are_two_rows(("hours", []), line, (odd, below)), True)


class Refused(unittest.TestCase):
    def with_line(self, kind):
        return [(function, [("book", (kind, [("a", "b", 1, 2)]), BOOKS),
                            ("line", ("a", "b", 0, 1), [(InvalidLine, WRONG_LINES[kind])])])
                for function in (closed_with, follows, news_of, two_rows)]

    def test_refused(self):
        for kind in KINDS:
            for function, parameters in self.with_line(kind):
                check_refusals(self, function, parameters)
            check_refusals(self, are_two_rows, self.with_line(kind)[0][1] + [("value", None, [])])
            names = [("one", "a", [(InvalidName, WRONG_NAMES)]), ("other", "b", [(InvalidName, WRONG_NAMES + ["a"])])]
            check_refusals(self, closed_line, [("book", (kind, [("a", "b", 1, 2)]), BOOKS)] + names)
        check_refusals(self, closed, [("book", THREE, BOOKS)])

    def test_at_odds_behind_all_other_errors(self):
        for kind in KINDS:
            book = ODD[kind]
            for function, parameters in self.with_line(kind):
                self.check_odd(function, book, [("a", "b", 0, 1)], WRONG_LINES[kind], InvalidLine)
            self.check_odd(are_two_rows, book, [("a", "b", 0, 1), (None, None)], [], None)
            for wrong in WRONG_LINES[kind]:
                self.assertRaises(InvalidLine, are_two_rows, book, wrong, None)
            self.check_odd(closed_line, book, ["a", "x"], [], None)
            for wrong in WRONG_NAMES:
                self.assertRaises(InvalidName, closed_line, book, wrong, "b")
                self.assertRaises(InvalidName, closed_line, book, "b", wrong)
            self.assertRaises(InvalidName, closed_line, book, "b", "b")
            self.check_odd(closed, book, [], [], None)

    def check_odd(self, function, book, others, wrongs, error):
        ahead = copy.deepcopy(book)
        with self.assertRaises(AtOdds) as caught:
            function(book, *others)
        self.assertIs(caught.exception.value, book)
        self.assertEqual(book, ahead)
        for wrong in wrongs:
            self.assertRaises(error, function, book, wrong)

    def test_line_of_the_other_kind(self):
        for function in (closed_with, follows, news_of, two_rows):
            self.assertRaises(InvalidLine, function, ("hours", []), ("a", "b", 5, 4))
            self.assertRaises(InvalidLine, function, ("bits", []), ("a", "b", 4, 5))
            function(("hours", []), ("a", "b", 4, 5))


class Limits(unittest.TestCase):
    def test_great_books(self):
        rng = random.Random(41)
        begun = time.time()
        names = great_names(12)
        for kind in KINDS:
            for shared in (0, 1, 6, 60):
                book = great_book(rng, kind, shared)
                lines = closed(book)
                for one, other, ahead, by in lines[::7]:
                    self.assertEqual(closed_line(book, other, one),
                                     line_of(kind, other, one, difference(kind, 0, ahead), by))
                for line in book[1][::5]:
                    self.assertEqual(news_of(book, line), "sure")
                line = line_of(kind, names[0], names[11], great_number(rng, kind), great_number(rng, kind))
                answer = two_rows(book, line)
                self.assertIs(are_two_rows(book, line, answer), True)
                self.assertEqual(closed_with(book, line) is None, news_of(book, line) == "never")
        self.assertLess(time.time() - begun, 10)

    def test_side_by_side(self):
        """Forty lines of two unknowns tell a number of a thousand figures together."""
        rng = random.Random(42)
        begun = time.time()
        for kind in KINDS:
            ahead = great_number(rng, kind)
            bys = [great_number(rng, kind) for _ in range(40)]
            book = (kind, [line_of(kind, "a", "b", ahead, by) for by in bys])
            one, other, told, by = closed_line(book, "a", "b")
            self.assertTrue(all(goes_into(kind, item, by) for item in bys))
            self.assertEqual(told, rest_of(kind, ahead, by))
            self.assertIs(follows(book, line_of(kind, "a", "b", ahead, bys[7])), True)
            self.assertEqual(news_of(book, ("a", "b", sum_of(kind, ahead, by), 0)), "open")
        self.assertLess(time.time() - begun, 10)


if __name__ == "__main__":
    unittest.main()
