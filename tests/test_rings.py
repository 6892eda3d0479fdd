"""[14] to [16]: rings and ways of a book."""

import itertools
import random
import time
import unittest
from unittest import mock

from hourrings import rings
from hourrings.books import keeps
from hourrings.errors import InvalidRing, InvalidWay, TooMany
from hourrings.rings import (all_rings, broken_rings, can_be_kept, is_broken, is_ring, is_way, ring_divisor, ring_off,
                             ring_sum, told_ring, way_line)
from tests.trying import (BOOKS, KINDS, SPANS, THINGS, check_fresh, check_refusals, drawn_book, forms, great_book,
                          great_names, great_number, is_off, is_tried_ring, line_of, names_of, rest_of, steps_ends,
                          sum_and_divisor, told_book, tried, tried_rings)

BOOK = ("hours", [("a", "b", 7, 12), ("b", "c", 3, 8), ("a", "c", 1, 6), ("b", "c", 5, 6)])
WORDS = ("bits", [("a", "b", 1, 6), ("b", "c", 2, 10), ("c", "a", 0, 4), ("c", "d", 3, 0), ("d", "c", 1, 7)])
RING = [(0, 1), (1, 1), (2, -1)]
NO_STEPS = [None, True, 0, "", (), ("a", 1), (0,), (0, 1, 1), [0, 1], (0, 2), (0, 0), (0, -2), (4, 1), (-1, 1),
            (True, 1), (0, True), (False, 1), ("0", 1), (0, "1"), (0, None), ((0, 1),), [(0, 1)], (0, [1])]
NO_LISTS = [None, True, 0, "", (), {}, [], {0: 1}, tuple(RING), [RING], (RING,), "ring", InvalidRing(RING)]
# Values that are bent at one place and are then no ring of BOOK.
NO_RINGS = NO_LISTS + [RING[:at] + [step] + RING[at + 1:] for at in range(3) for step in NO_STEPS]
NO_RINGS += [[(0, 1)], [(0, 1), (1, 1)], [(0, 1), (0, -1)], [(0, 1), (1, 1), (2, 1)], [(0, 1), (2, -1), (1, 1)],
             RING + RING, RING + [(0, 1)], [(0, 1), (1, 1), (3, -1), (0, -1)], [(1, 1), (3, 1)],
             [(0, 1), (1, 1), (3, -1), (1, 1), (2, -1)], [(0, 1), (1, 1), (2, -1), (0, 1), (3, 1), (2, -1)]]
NO_RINGS += [[(0, 1), (1, 1), (2, 0)], [(0, 1), (1, 1), (2, -2)], [(0, 2), (2, 1), (1, -1)], [(1, 0), (3, 1)]]
NO_WAYS = NO_LISTS + [[(0, 1), step] for step in NO_STEPS] + [
    RING, [(0, 1), (2, 1)], [(0, 1), (0, -1)], [(1, 1), (3, -1)], [(0, 1), (1, 1), (3, -1)], [(1, 1), (0, 1)],
    [(0, 1), (1, -1)], [(2, 1), (1, 1)], [(0, 1), (0, 1)], [(0, 0)], [(0, -2)], [(0, 2)], [(3, -1), (0, 0)]]


def rows_of_steps(lines, most):
    for many in range(most + 1):
        for numbers in itertools.product(range(len(lines)), repeat=many):
            for ways in itertools.product((-1, 1), repeat=many):
                yield list(zip(numbers, ways))


def is_tried_way(lines, steps):
    ends = steps_ends(lines, steps)
    names = [begin for begin, _ in ends] + [end for _, end in ends[-1:]]
    goes_on = all(ends[at - 1][1] == ends[at][0] for at in range(1, len(ends)))
    return steps != [] and goes_on and len(set(names)) == len(names)


class RingsAndWays(unittest.TestCase):
    def test_all_rows_of_steps(self):
        # In the last one two rings of two lines have a name in common.
        double = ("hours", [("a", "b", 1, 2), ("b", "a", 0, 3), ("b", "c", 0, 4), ("b", "c", 2, 4)])
        for book in (BOOK, ("bits", WORDS[1][:4]), double):
            rings = ways = 0
            for steps in rows_of_steps(book[1], 4):
                ring, way = is_tried_ring(book[1], steps), is_tried_way(book[1], steps)
                self.assertIs(is_ring(book, steps), ring, steps)
                self.assertIs(is_way(book, steps), way, steps)
                rings, ways = rings + ring, ways + way
            self.assertGreater(min(rings, ways), 5)

    def test_wrong_forms(self):
        for value in THINGS + NO_RINGS:
            self.assertIs(is_ring(BOOK, value), False, value)
        for value in THINGS + NO_WAYS:
            self.assertIs(is_way(BOOK, value), False, value)
        self.assertIs(is_ring(BOOK, RING), True)
        self.assertIs(is_way(BOOK, [(3, -1), (0, -1)]), True)

    def test_two_lines(self):
        book = ("hours", [("a", "b", 1, 2), ("a", "b", 1, 2), ("b", "a", 1, 2)])
        for ring in ([(0, 1), (1, -1)], [(0, -1), (1, 1)], [(0, 1), (2, 1)], [(2, -1), (1, -1)]):
            self.assertIs(is_ring(book, ring), True)
        for ring in ([(0, 1), (1, 1)], [(0, 1), (0, -1)], [(0, 1), (2, -1)]):
            self.assertIs(is_ring(book, ring), False)
        self.assertEqual(all_rings(book), [[(0, -1), (1, 1)], [(0, -1), (2, -1)], [(1, -1), (2, -1)]])
        self.assertEqual(broken_rings(book), [])

    def test_books_without_lines(self):
        for kind in KINDS:
            book = (kind, [])
            self.assertEqual([is_ring(book, []), is_way(book, []), is_way(book, [(0, 1)])], [False] * 3)
            self.assertEqual([all_rings(book), broken_rings(book), can_be_kept(book)], [[], [], True])

    def test_refused(self):
        for function in (is_ring, is_way):
            check_refusals(self, function, [("book", BOOK, BOOKS), ("value", None, [])])


class Forms(unittest.TestCase):
    def test_told_form(self):
        rng = random.Random(14)
        for kind in KINDS:
            for _ in range(60):
                book = drawn_book(rng, kind, ["a", "b", "c", "d"], 7)
                for ring in all_rings(book):
                    self.assertEqual(ring, min(forms(ring)))
                    self.assertEqual(ring[0], (min(number for number, _ in ring), -1))
                    for form in forms(ring):
                        self.assertIs(is_ring(book, form), True)
                        self.assertEqual(told_ring(book, form), ring)
                        self.assertEqual(ring_sum(book, form), sum_and_divisor(kind, book[1], form)[0])
                        self.assertEqual(ring_divisor(book, form), sum_and_divisor(kind, book[1], form)[1])
                        self.assertIs(is_broken(book, form), is_off(kind, book[1], form))
                        total, by = sum_and_divisor(kind, book[1], ring)
                        self.assertEqual(ring_off(book, form), rest_of(kind, total, by))
                        self.assertEqual(ring_off(book, form) == 0, not is_broken(book, form))

    def test_lines_by_nought_and_one(self):
        exact = ("hours", [("a", "b", -5, 0), ("b", "c", 2, 0), ("a", "c", 4, 0), ("c", "a", 0, 1)])
        ring = [(0, 1), (1, 1), (2, -1)]
        self.assertEqual([ring_sum(exact, ring), ring_divisor(exact, ring), ring_off(exact, ring)], [-7, 0, 7])
        self.assertIs(is_broken(exact, ring), True)
        open_ring = [(0, 1), (1, 1), (3, 1)]
        self.assertEqual([ring_sum(exact, open_ring), ring_divisor(exact, open_ring), ring_off(exact, open_ring)],
                         [-3, 1, 0])
        self.assertIs(is_broken(exact, open_ring), False)
        words = ("bits", [("a", "b", 5, 0), ("b", "a", 6, 0)])
        self.assertEqual([ring_sum(words, [(0, 1), (1, 1)]), ring_off(words, [(1, -1), (0, -1)])], [3, 3])

    def test_divisors_of_each_kind(self):
        lines = [("a", "b", 1, 12), ("b", "a", 4, 10)]
        self.assertEqual(ring_divisor(("hours", lines), [(0, 1), (1, 1)]), 2)
        self.assertEqual(ring_divisor(("bits", lines), [(0, 1), (1, 1)]), 6)
        self.assertEqual(ring_off(("hours", lines), [(0, 1), (1, 1)]), 1)
        self.assertEqual(ring_off(("bits", lines), [(0, 1), (1, 1)]), 3)

    def test_great(self):
        rng = random.Random(15)
        for kind in KINDS:
            lines = [(one, other, great_number(rng, kind), 0)
                     for one, other in zip(great_names(12), great_names(12)[1:] + great_names(1))]
            ring = [(at, 1) for at in range(12)]
            total, by = sum_and_divisor(kind, lines, ring)
            self.assertEqual([ring_sum((kind, lines), ring), ring_divisor((kind, lines), ring)], [total, by])
            self.assertIs(can_be_kept((kind, lines)), total == 0)

    def test_refused(self):
        for function in (told_ring, ring_sum, ring_divisor, is_broken, ring_off):
            check_refusals(self, function, [("book", BOOK, BOOKS), ("ring", RING, [(InvalidRing, NO_RINGS)])])
            check_fresh(self, function, BOOK, RING)
            check_fresh(self, function, BOOK, [(0, -1), (2, 1), (1, -1)])


class WayLines(unittest.TestCase):
    def test_all_ways(self):
        for book in (BOOK, WORDS):
            for steps in rows_of_steps(book[1], 3):
                if not is_tried_way(book[1], steps):
                    continue
                ends = steps_ends(book[1], steps)
                line = line_of(book[0], ends[0][0], ends[-1][1], *sum_and_divisor(book[0], book[1], steps))
                self.assertEqual(way_line(book, steps), line)

    def test_it_is_kept(self):
        rng = random.Random(16)
        for kind in KINDS:
            for _ in range(12):
                book = told_book(rng, kind, ["a", "b", "c"], 5)
                names = names_of(book[1])
                rows = tried(kind, book[1], names, SPANS[kind])
                for steps in rows_of_steps(book[1], 2):
                    if is_way(book, steps):
                        line = way_line(book, steps)
                        for row in rows[:200]:
                            self.assertTrue(keeps(kind, line, sorted(row.items())))

    def test_refused(self):
        way = [(0, 1), (1, 1)]
        check_refusals(self, way_line, [("book", BOOK, BOOKS), ("way", way, [(InvalidWay, NO_WAYS)])])
        check_fresh(self, way_line, BOOK, way)


class AllRings(unittest.TestCase):
    def test_all_rows_of_steps(self):
        rng = random.Random(17)
        for kind in KINDS:
            for _ in range(25):
                book = drawn_book(rng, kind, ["a", "b", "c", "d"], 6)
                rings = tried_rings(book[1])
                self.assertEqual(all_rings(book), rings)
                broken = [ring for ring in rings if is_off(kind, book[1], ring)]
                self.assertEqual(broken_rings(book), broken)
                self.assertIs(can_be_kept(book), broken == [])
                check_fresh(self, all_rings, book)
                check_fresh(self, broken_rings, book)

    def test_kept_exactly_if_no_ring_is_broken(self):
        rng = random.Random(18)
        for kind in KINDS:
            kept = 0
            for _ in range(120):
                book = drawn_book(rng, kind, ["a", "b", "c"], 5)
                found = tried(kind, book[1], names_of(book[1]), SPANS[kind]) != []
                self.assertIs(can_be_kept(book), found, book)
                self.assertIs(broken_rings(book) == [], found)
                kept += found
            self.assertTrue(20 < kept < 110, kept)

    def test_rings_of_a_forest_are_not_enough(self):
        book = ("hours", [("a", "b", 0, 1), ("a", "b", 0, 2), ("a", "b", 1, 2)])
        self.assertFalse(is_broken(book, [(0, 1), (1, -1)]) or is_broken(book, [(0, 1), (2, -1)]))
        self.assertIs(can_be_kept(book), False)
        self.assertEqual(broken_rings(book), [[(1, -1), (2, 1)]])

    def test_refused(self):
        for function in (all_rings, broken_rings, can_be_kept):
            check_refusals(self, function, [("book", BOOK, BOOKS)])


def side_by_side(kind, many_each):
    """A book of some two unknowns with so many lines each: many lines have as many rings as pairs of them."""
    lines = []
    for at, many in enumerate(many_each):
        lines += [(f"a{at}", f"b{at}", 0, 2)] * many
    return (kind, lines)


class ManyRings(unittest.TestCase):
    def test_five_hundred(self):
        for kind in KINDS:
            book = side_by_side(kind, [32, 3, 2])
            rings = all_rings(book)
            self.assertEqual(len(rings), 500)
            self.assertEqual(rings, sorted(rings))
            self.assertEqual(broken_rings(book), [])
            for more in ([32, 3, 2, 2], [33], [32, 4], [40], [2, 2, 3, 32]):
                for function in (all_rings, broken_rings):
                    with self.assertRaises(TooMany) as caught:
                        function(side_by_side(kind, more))
                    self.assertEqual(caught.exception.value, 501)
                self.assertIs(can_be_kept(side_by_side(kind, more)), True)

    def test_many_rings_of_many_steps(self):
        """Five names, each two of them joined, have 37 rings; seven have more than 500."""
        for many, rings in ((4, 7), (5, 37), (6, 197)):
            lines = [(one, other, 1, 2) for one, other in itertools.combinations("abcdefgh"[:many], 2)]
            self.assertEqual(len(all_rings(("hours", lines))), rings)
        lines = [(one, other, 1, 2) for one, other in itertools.combinations("abcdefg", 2)]
        self.assertRaises(TooMany, all_rings, ("hours", lines))

    def test_long_walks_that_lead_nowhere(self):
        """Rings of two lines hang on a lot of names through which no way leads back: they are not gone through."""
        names = [f"a{at}" for at in range(11)]
        lines = [(names[0], "x", 0, 2)] * 4
        lines += [(names[at], names[(at + far) % 11], 0, 2) for far in (1, 2, 3) for at in range(11)]
        lines += [(names[at], names[(at + 4) % 11], 0, 2) for at in (0, 3, 6)]
        with mock.patch.object(rings, "walk_on", wraps=rings.walk_on) as walks:
            self.assertRaises(TooMany, all_rings, ("hours", lines))
        self.assertLess(walks.call_count, 5000)

    def test_great_books(self):
        rng = random.Random(19)
        begun = time.time()
        for kind in KINDS:
            for shared in (0, 1, 6, 60):
                book = great_book(rng, kind, shared)
                self.assertIs(can_be_kept(book), True)
                self.assertRaises(TooMany, all_rings, book)
                self.assertRaises(TooMany, broken_rings, book)
                one, other, ahead, by = book[1][3]
                odd = (kind, book[1] + [line_of(kind, one, other, ahead ^ 1, by)])
                self.assertIs(can_be_kept(odd), shared == 1 and by == 1)
        self.assertLess(time.time() - begun, 10)


if __name__ == "__main__":
    unittest.main()
