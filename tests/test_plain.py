"""[36]: a no is one way."""

import random
import time
import unittest

from hourrings.closed import follows, news_of
from hourrings.errors import InvalidLine
from hourrings.papers import is_odds_paper, ring_of_odds
from hourrings.plain import barring_way, plain_odds
from hourrings.rests import agree
from hourrings.rings import can_be_kept, is_way, way_line
from tests.test_rings import rows_of_steps
from tests.trying import (BOOKS, KINDS, ODD, WRONG_LINES, check_at_odds, check_fresh, check_refusals, difference,
                          drawn_book, drawn_line, great_book, great_names, great_number, line_of, names_of, sum_of,
                          told_book, tried_books)

BYS = {"hours": [0, 1, 2, 3, 4, 6, 12], "bits": [0, 1, 2, 3, 4, 5, 6, 10, 12]}


class PlainOdds(unittest.TestCase):
    def check(self, book):
        value = check_fresh(self, plain_odds, book)
        self.assertIs(value is None, can_be_kept(book), book)
        if value is None:
            return False
        paper, first, second = value
        self.assertIs(is_odds_paper(book, value), True, (book, value))
        self.assertTrue({entry[0] for entry in paper} <= {"told", "turned", "joined"})
        told = [entry[1] for entry in paper if entry[0] == "told"]
        self.assertEqual(len(set(told)), len(told))
        self.assertLessEqual(len(told), len(names_of(book[1])))
        self.assertTrue({number for number, _ in ring_of_odds(book, value)} <= set(told))
        self.assertTrue(0 <= first < len(paper) and 0 <= second < len(paper))
        return True

    def test_drawn_books(self):
        rng = random.Random(91)
        for kind in KINDS:
            odd = 0
            for _ in range(300):
                odd += self.check(drawn_book(rng, kind, ["a", "b", "c", "d", "e"][:rng.randint(2, 5)], 9))
            self.assertTrue(50 < odd < 290, odd)

    def test_edges(self):
        for kind in KINDS:
            self.assertIsNone(plain_odds((kind, [])))
            self.assertIsNone(plain_odds((kind, [("a", "b", 0, 1)] * 3)))
            for other in (("a", "b", 0, 2), ("b", "a", 0, 2), ("b", "a", 0, 0), ("a", "b", 2, 4)):
                self.assertIs(self.check((kind, [("a", "b", 1, 2), other])), True)
                self.assertIs(self.check((kind, [other, ("a", "b", 1, 2)])), True)

    def test_rings_of_a_forest_are_not_enough(self):
        for kind in KINDS:
            self.assertIs(self.check((kind, [("a", "b", 0, 1), ("a", "b", 0, 2), ("a", "b", 1, 2)])), True)

    def test_great_books(self):
        rng = random.Random(92)
        begun = time.time()
        for kind in KINDS:
            for shared in (0, 6, 60):
                book = great_book(rng, kind, shared, 39)
                self.assertIs(self.check(book), False)
                one, other, ahead, by = book[1][rng.randrange(39)]
                line = line_of(kind, other, one, sum_of(kind, difference(kind, 0, ahead), 1), by)
                for at in (0, 20, 39):
                    self.assertIs(self.check((kind, book[1][:at] + [line] + book[1][at:])), True)
        self.assertLess(time.time() - begun, 10)

    def test_refused(self):
        check_refusals(self, plain_odds, [("book", ODD["hours"], BOOKS)])


class BarringWays(unittest.TestCase):
    def check(self, book, line):
        kind = book[0]
        way = check_fresh(self, barring_way, book, line)
        self.assertIs(way is None, news_of(book, line) != "never", (book, line))
        if way is None:
            return False
        self.assertIs(is_way(book, way), True, (book, line, way))
        told = way_line(book, way)
        self.assertEqual(told[:2], line[:2])
        self.assertIs(agree(kind, told[2:], line[2:]), False)
        return True

    def test_all_ways(self):
        """A line can never be kept exactly if one of all ways does not agree with it."""
        found = []
        for rng, book, _ in tried_books(93, 60, 4):
            kind, lines = book
            told = [way_line(book, way) for way in rows_of_steps(lines, 2) if way and is_way(book, way)]
            for _ in range(8):
                line = drawn_line(rng, kind, ["a", "b", "c", "x"], BYS[kind])
                barred = [way for way in told if way[:2] == line[:2] and not agree(kind, way[2:], line[2:])]
                self.assertIs(self.check(book, line), barred != [])
                found.append(barred != [])
        self.assertGreater(min(found.count(True), found.count(False)), 50)

    def test_long_ways(self):
        """Of many ways only one, through all names, does not agree with the line."""
        rng = random.Random(94)
        found = 0
        for kind in KINDS:
            for _ in range(150):
                book = told_book(rng, kind, ["a", "b", "c", "d", "e", "f"], 12)
                for _ in range(4):
                    found += self.check(book, drawn_line(rng, kind, ["a", "b", "c", "d", "e", "f", "x"], BYS[kind]))
            names = great_names(12)
            by = 12 if kind == "hours" else 45
            chain = [(names[at], names[at + 1], 0, by) for at in range(11)]
            idle = [(names[at], names[far], 0, 1) for at in range(12) for far in range(at + 2, 12)][:28]
            self.assertEqual(barring_way((kind, chain + idle), (names[0], names[11], 1, by)),
                             [(at, 1) for at in range(11)])
            self.assertEqual(barring_way((kind, idle + chain), (names[11], names[0], 1, 0)),
                             [(at + 28, -1) for at in reversed(range(11))])
        self.assertGreater(found, 100)

    def test_several_ways(self):
        """What follows may need several ways, but what bars a line is one."""
        book = ("hours", [("a", "b", 0, 2), ("a", "b", 0, 3)])
        self.assertIs(follows(book, ("a", "b", 0, 6)), True)
        self.assertIsNone(barring_way(book, ("a", "b", 0, 6)))
        self.assertEqual(barring_way(book, ("a", "b", 3, 6)), [(0, 1)])
        self.assertEqual(barring_way(book, ("b", "a", 4, 6)), [(1, -1)])
        self.assertEqual(barring_way(book, ("b", "a", 3, 6)), [(0, -1)])
        words = ("bits", [("a", "b", 0, 2), ("b", "a", 0, 3)])
        self.assertEqual(barring_way(words, ("a", "b", 2, 0)), [(1, -1)])
        self.assertEqual(barring_way(words, ("a", "b", 3, 0)), [(0, 1)])

    def test_exact_lines(self):
        """An exact line that follows is told by one way of exact lines."""
        rng = random.Random(95)
        for kind in KINDS:
            for _ in range(40):
                book = told_book(rng, kind, ["a", "b", "c"], 4)
                exact = [way_line(book, way) for way in rows_of_steps(book[1], 2) if way and is_way(book, way)]
                exact = {line for line in exact if line[3] == 0}
                for one in "abc":
                    for other in set("abc") - {one}:
                        for ahead in range(-6, 7) if kind == "hours" else range(8):
                            line = (one, other, ahead, 0)
                            self.assertIs(follows(book, line), line in exact)

    def test_edges(self):
        for kind in KINDS:
            self.assertIsNone(barring_way((kind, []), ("a", "b", 5, 0)))
            self.assertIsNone(barring_way((kind, [("a", "b", 1, 2)]), ("a", "x", 0, 2)))
            self.assertIsNone(barring_way((kind, [("a", "b", 1, 2)]), ("a", "b", 0, 1)))
            self.assertEqual(barring_way((kind, [("a", "b", 1, 2)] * 3), ("b", "a", 0, 2)), [(0, -1)])

    def test_great_books(self):
        rng = random.Random(96)
        begun = time.time()
        for kind in KINDS:
            for shared in (0, 1, 6, 60):
                book = great_book(rng, kind, shared)
                for _ in range(6):
                    one, other = rng.sample(great_names(12), 2)
                    self.check(book, (one, other, great_number(rng, kind), 0))
        self.assertLess(time.time() - begun, 10)

    def test_refused(self):
        for kind in KINDS:
            lines = [("line", ("a", "b", 0, 1), [(InvalidLine, WRONG_LINES[kind])])]
            check_refusals(self, barring_way, [("book", (kind, [("a", "b", 1, 2)]), BOOKS)] + lines)
            check_at_odds(self, barring_way, [("book", ODD[kind], [])] + lines)


if __name__ == "__main__":
    unittest.main()
