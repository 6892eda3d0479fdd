"""[70] and [71]: strikes at unknown hours."""

import itertools
import math
import random
import time
import unittest

from hourrings.bells import can_strike, hour_line, may_miss, missing, must_strike
from hourrings.books import is_keeping
from hourrings.closed import closed_line
from hourrings.errors import AtOdds, InvalidBook, InvalidName, InvalidThings
from hourrings.given import first_numbers
from hourrings.rings import can_be_kept
from tests.trying import (ODD, THINGS, WRONG_BOOKS, WRONG_NAMES, check_at_odds, check_fresh, check_refusals,
                          check_refused, great_book, great_number, keeps_line, line_of, names_of, told_book)

HALL = ("hours", [("a", "b", 4, 12), ("b", "c", 1, 5)])
BELLS = [("a", 0, 6), ("b", 2, 4)]
NO_BELLS = [None, True, 0, "", (), tuple(BELLS), {}, {"a": 1}, ("a", 0, 6), ["a"], [("a", 0)], [("a",)], [()],
            [("a", 0, 6, 1)], [["a", 0, 6]], [("x", 0, 6)], [("A", 0, 6)], [("", 0, 6)], [(None, 0, 6)], [(1, 0, 6)],
            [(["a"], 0, 6)], [("a", None, 6)], [("a", True, 6)], [("a", "0", 6)], [("a", [0], 6)], [("a", 0, 0)],
            [("a", 0, -6)], [("a", 0, True)], [("a", 0, None)], [("a", 0, "6")], [(0, 6, "a")], [[("a", 0, 6)]],
            [("a", 0, 6), None], [("a", 0, 6), ("d", 0, 6)], [("a", (0, 6))], InvalidThings(BELLS),
            [(InvalidThings("a"), 0, 6)], [({"a": 1}, 0, 6)]]
WRONG_HALLS = WRONG_BOOKS + [("bits", []), ("bits", [("a", "b", 1, 2)]), ODD["bits"]]
OF_HALL = [("book", HALL, [(InvalidBook, WRONG_HALLS)]), ("bells", BELLS, [(InvalidThings, NO_BELLS)])]


def drawn_bells(seed, many):
    """Small books of hours, bells of them, a period, and all rows of it."""
    rng = random.Random(seed)
    found = 0
    while found < many:
        lines = told_book(rng, "hours", ["a", "b", "c"], 4)[1]
        names = names_of(lines)
        everies = rng.choice([[1, 2, 4], [2, 3, 6], [2, 6], [4, 6], [3, 1]])
        bells = [(rng.choice(names), rng.randint(-9, 9), rng.choice(everies)) for _ in range(rng.randint(0, 4)) if names]
        bys = [line[3] for line in lines] + [every for _, _, every in bells]
        period = math.lcm(1, *[by for by in bys if by > 0])
        if period > 24:
            continue
        found += 1
        # An exact line is kept by rests of a period that numbers keep it by.
        exact = [line if line[3] else line_of("hours", *line[:3], period) for line in lines]
        rows = [dict(zip(names, row)) for row in itertools.product(range(period), repeat=len(names))]
        yield rng, ("hours", lines), bells, period, [row for row in rows
                                                     if all(keeps_line("hours", line, row) for line in exact)]


def hours_of(bells, period, row):
    """The hours of a period at which all bells strike."""
    return [hour for hour in range(period)
            if all((hour - row[name] - ahead) % every == 0 for name, ahead, every in bells)]


class Bells(unittest.TestCase):
    def test_all_rows(self):
        seen = []
        for _, book, bells, period, rows in drawn_bells(251, 150):
            names = names_of(book[1])
            hours = [hours_of(bells, period, row) for row in rows]
            can, must = any(hours), all(hours)
            self.assertIs(can_strike(book, bells), can)
            self.assertIs(must_strike(book, bells), must)
            for name in names:
                behind = {(hour - row[name]) % period for row, found in zip(rows, hours) for hour in found}
                answer = check_fresh(self, hour_line, book, bells, name)
                self.assertIs(answer is None, not behind)
                if answer is not None:
                    self.assertIsInstance(answer, tuple)
                    ahead, by = answer
                    self.assertTrue(0 <= ahead < by and period % by == 0)
                    self.assertEqual(behind, set(range(ahead, period, by)))
            missed = [two for two in itertools.combinations(range(len(bells)), 2)
                      if not all(hours_of([bells[two[0]], bells[two[1]]], period, row) for row in rows)]
            self.assertEqual(check_fresh(self, may_miss, book, bells), missed[0] if missed else None)
            self.assertIs(missed == [], must)
            numbers = check_fresh(self, missing, book, bells)
            self.assertIs(numbers is None, must)
            if numbers is not None:
                self.assertIs(is_keeping(book, numbers), True)
                self.assertEqual(hours_of(bells, period, dict(numbers)), [])
            seen.append((can, must))
        for item in ((True, True), (True, False), (False, False)):
            self.assertGreater(seen.count(item), 5)

    def test_one_more_unknown(self):
        """Bells are lines to the hour, by its own name."""
        for _, book, bells, _, _ in drawn_bells(252, 80):
            whole = ("hours", book[1] + [line_of("hours", name, "hour", ahead, every) for name, ahead, every in bells])
            self.assertIs(can_strike(book, bells), can_be_kept(whole))
            for name in names_of(book[1]):
                told = closed_line(whole, name, "hour")[2:] if can_be_kept(whole) else None
                self.assertEqual(hour_line(book, bells, name), told)

    def test_names_like_the_hour(self):
        names = ["a", "h", "hour", "hours", "x", "z999"]
        lines = [(names[at], names[at + 1], 1, 4) for at in range(5)]
        book = ("hours", lines)
        bells = [(name, 0, 2) for name in names]
        self.assertEqual([can_strike(book, bells), can_strike(book, bells[::2])], [False, True])
        self.assertEqual([hour_line(book, bells[::2], name) for name in names], [(0, 2), (1, 2)] * 3)
        self.assertEqual([must_strike(book, bells[::2]), may_miss(book, bells)], [True, (0, 1)])

    def test_edges(self):
        empty = ("hours", [])
        for book in (empty, HALL):
            self.assertEqual([can_strike(book, []), must_strike(book, []), may_miss(book, []), missing(book, [])],
                             [True, True, None, None])
        self.assertEqual([hour_line(HALL, [], name) for name in "abc"], [(0, 1)] * 3)
        self.assertEqual([hour_line(HALL, [("a", -1, 6)], name) for name in "abc"], [(5, 6), (1, 6), (0, 1)])
        self.assertEqual([must_strike(HALL, [("a", -1, 6)]), missing(HALL, [("c", 5, 10 ** 30)])], [True, None])
        # Two bells of one unknown must exactly if they can.
        for one, other, right in ((("a", 0, 4), ("a", 2, 6), True), (("a", 0, 4), ("a", 1, 6), False),
                                  (("a", 7, 1), ("a", 3, 9), True), (("a", 5, 9), ("a", 5, 9), True)):
            self.assertEqual([can_strike(HALL, [one, other]), must_strike(HALL, [one, other])], [right, right])
            self.assertEqual(may_miss(HALL, [one, other]), None if right else (0, 1))
            self.assertIs(missing(HALL, [one, other]) is None, right)
        # Unknowns that are not joined.
        apart = ("hours", [("a", "b", 0, 2), ("c", "d", 0, 2), ("a", "c", 0, 1)])
        self.assertEqual([must_strike(apart, [("a", 0, 4), ("c", 1, 6)]), must_strike(apart, [("a", 0, 4), ("c", 1, 9)])],
                         [False, True])
        # Exact lines, and hours below 0.
        exact = ("hours", [("a", "b", -5, 0)])
        self.assertEqual([must_strike(exact, [("a", -5, 12), ("b", 0, 18)]), hour_line(exact, [("a", -5, 12),
                                                                                               ("b", 0, 18)], "b")],
                         [True, (0, 36)])
        self.assertEqual([may_miss(exact, [("a", -5, 12), ("b", 1, 18)]), can_strike(exact, [("a", -5, 12),
                                                                                             ("b", 1, 18)])],
                         [(0, 1), False])

    def test_great(self):
        rng = random.Random(253)
        begun = time.time()
        for shared in (0, 1, 60, 60 * 10 ** 27):
            book = great_book(rng, "hours", shared)
            names = names_of(book[1])
            told = dict(first_numbers(book))
            for most in (10 ** 30, 60, 2):
                bells = []
                hour = great_number(rng, "hours")
                for name in names:
                    bells.append((name, hour - told[name], rng.randrange(1, most)))
                self.assertIs(can_strike(book, bells), True)
                ahead, by = hour_line(book, bells, names[0])
                self.assertEqual((hour - told[names[0]] - ahead) % by, 0)
                numbers = missing(book, bells)
                self.assertIs(numbers is None, must_strike(book, bells))
                if numbers is not None:
                    self.assertIs(is_keeping(book, numbers), True)
                    one, other = [bells[number] for number in may_miss(book, bells)]
                    row = dict(numbers)
                    off = row[one[0]] + one[1] - row[other[0]] - other[1]
                    self.assertNotEqual(off % math.gcd(one[2], other[2]), 0)
        self.assertLess(time.time() - begun, 10)

    def test_refused(self):
        for function in (can_strike, must_strike, may_miss, missing):
            check_refusals(self, function, OF_HALL)
            odd = [("book", ODD["hours"], []), OF_HALL[1]]
            check_at_odds(self, function, odd)
        wrong = WRONG_NAMES + ["x", "hour", "d", ""]
        check_refusals(self, hour_line, OF_HALL + [("name", "b", [(InvalidName, wrong)])])
        check_at_odds(self, hour_line, [("book", ODD["hours"], []), OF_HALL[1], ("name", "a", [])])
        # A book at odds is told ahead of the name.
        names = ["book", "bells", "name"]
        for name in wrong:
            check_refused(self, hour_line, AtOdds, ODD["hours"], names, [ODD["hours"], BELLS, name])
        for value in THINGS:
            for book in WRONG_HALLS[:3]:
                check_refused(self, hour_line, InvalidBook, book, names, [book, value, "a"])
        check_refused(self, hour_line, InvalidName, "a", names, [("hours", []), [], "a"])


if __name__ == "__main__":
    unittest.main()
