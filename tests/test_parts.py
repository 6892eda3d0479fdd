"""[61] to [65]: giving up lines."""

import itertools
import random
import time
import unittest

from hourrings.errors import InvalidLines, InvalidNumber
from hourrings.parts import (crossing, fewest_giving, greatest_parts, how_many_fewest, is_giving, is_greatest_part,
                             is_least_giving, is_lightest, is_part, least_givings, lightest_giving, never_given,
                             order_for, part_by, staying)
from hourrings.rings import broken_rings, can_be_kept
from hourrings.shortest import cores, quiet_lines, saving_lines
from tests.test_choices import is_kept_by_some
from tests.trying import (BOOKS, KINDS, NO_COUNTS, ODD, THINGS, check_fresh, check_refusals, drawn_book, great_book,
                          great_names, line_of, lots, names_of, rest_of, sum_of, told_book)

FIVE = ("hours", [("a", "b", 7, 12), ("b", "c", 3, 8), ("a", "c", 1, 6), ("b", "c", 5, 6), ("c", "d", 0, 4)])
NO_LOTS = [None, True, 0, "", "01", (), (0, 1), {}, {0: 1}, [1, 0], [0, 0], [-1], [-1, 0], [5], [0, 5], [0, True],
           [False, 1], ["0"], [None], [[0]], [(0,)], [0, [1]], [(0, 1), (1, 1)], [10 ** 30], InvalidLines([0])]
NO_LISTS = THINGS[:5] + [0, "ab", (), ([0],), {}, {"a": 1}, [0], [(0,)], [(0, 1)], [None], ["a"], [[1, 0]], [[0, 0]],
                         [[-1]], [[True]], [[False, 1]], [[0], [1, None]], [["0"]], [[0, [1]]], [[[0]]], [{}], [{0: 1}],
                         [[0, 1], [0, 2, 1]], [[0], 1], InvalidLines([[0]])]


def drawn_books(seed, many, most=7, names="abcd"):
    rng = random.Random(seed)
    for kind in KINDS:
        for _ in range(many):
            yield rng, drawn_book(rng, kind, list(names[:rng.choice([2, 3, 3, len(names)])]), most)


def at(lines, lot):
    return [lines[number] for number in lot]


def left_of(lines, lot):
    return [number for number in range(len(lines)) if number not in lot]


def least_of(found):
    return sorted(lot for lot in found if not any(set(other) < set(lot) for other in found))


def greatest_of(found):
    return sorted(lot for lot in found if not any(set(other) > set(lot) for other in found))


def tried_crossing(rows):
    items = sorted({item for row in rows for item in row})
    found = [[items[number] for number in lot] for lot in lots(len(items))]
    return least_of([lot for lot in found if all(set(lot) & set(row) for row in rows)])


class Lots(unittest.TestCase):
    def test_by_trying(self):
        seen = []
        for _, book in drawn_books(221, 30, 6, "abc"):
            kind, lines = book
            parts = [lot for lot in lots(len(lines)) if is_kept_by_some(kind, at(lines, lot))]
            givings = [left_of(lines, lot) for lot in parts]
            least, greatest = least_of(givings), greatest_of(parts)
            self.assertEqual(check_fresh(self, least_givings, book), least)
            self.assertEqual(check_fresh(self, greatest_parts, book), greatest)
            self.assertEqual(greatest, sorted(left_of(lines, lot) for lot in least))
            for lot in lots(len(lines)):
                self.assertIs(is_part(book, lot), lot in parts)
                self.assertIs(is_giving(book, lot), lot in givings)
                self.assertIs(is_least_giving(book, lot), lot in least)
                self.assertIs(is_greatest_part(book, lot), lot in greatest)
            self.assertIs(least == [[]], can_be_kept(book))
            seen.append(len(least))
        self.assertGreater(seen.count(1), 10)
        self.assertGreater(len(seen) - seen.count(1), 10)

    def test_told_anew(self):
        """The lots that can be told anew so that a book can be kept are the givings up."""
        for kind in KINDS:
            rng = random.Random(222)
            for _ in range(12):
                lines = [line_of(kind, *rng.choice([("a", "b"), ("b", "c"), ("a", "c")]), rng.randrange(4),
                                 rng.choice([2, 4])) for _ in range(4)]
                for lot in lots(4):
                    rests = [range(lines[number][3]) for number in lot]
                    found = False
                    for told in itertools.product(*rests):
                        anew = list(lines)
                        for number, ahead in zip(lot, told):
                            anew[number] = line_of(kind, *anew[number][:2], ahead, anew[number][3])
                        found = found or can_be_kept((kind, anew))
                    self.assertIs(is_giving((kind, lines), lot), found)
                saving = [lot for lot in lots(4) if len(lot) == 1 and is_giving((kind, lines), lot)]
                self.assertEqual(saving, [[number] for number in saving_lines((kind, lines))])

    def test_wrong_forms(self):
        good = (FIVE[0], FIVE[1][4:] * 5)
        for function in (is_giving, is_part, is_least_giving, is_greatest_part):
            for value in NO_LOTS:
                for book in (FIVE, ODD["bits"], good):
                    self.assertIs(function(book, value), False, value)
            check_refusals(self, function, [("book", FIVE, BOOKS), ("value", None, [])])
        for kind in KINDS:
            empty = (kind, [])
            self.assertEqual([least_givings(empty), greatest_parts(empty), never_given(empty)], [[[]], [[]], []])
            self.assertEqual([fewest_giving(empty), how_many_fewest(empty), part_by(empty, [])], [[], 1, []])
            self.assertEqual([order_for(empty, []), lightest_giving(empty, [])], [[], ([], 0)])
            for function in (is_giving, is_part, is_least_giving, is_greatest_part):
                self.assertIs(function(empty, []), True)
                self.assertIs(function(empty, [0]), False)
            self.assertIs(is_lightest(empty, [], []), True)


class Crossing(unittest.TestCase):
    def test_by_trying(self):
        rng = random.Random(223)
        for _ in range(300):
            items = rng.sample([0, 1, 2, 3, 5, 8, 40, 10 ** 30], rng.randint(0, 6))
            rows = [sorted(rng.sample(items, rng.randint(0 if rng.random() < 0.1 else min(1, len(items)), len(items))))
                    for _ in range(rng.randint(0, 8))]
            found = check_fresh(self, crossing, rows)
            self.assertEqual(found, tried_crossing(rows))
            again = rows + rng.sample(rows, len(rows))
            rng.shuffle(again)
            self.assertEqual(crossing(again), found)
            # Crossed once more come the least ones of the rows.
            distinct = [list(row) for row in {tuple(row) for row in rows}]
            self.assertEqual(crossing(found), least_of(distinct))

    def test_edges(self):
        self.assertEqual(crossing([]), [[]])
        self.assertEqual(crossing([[]]), [])
        self.assertEqual(crossing([[1], []]), [])
        self.assertEqual(crossing([[3], [3], [3, 4]]), [[3]])
        self.assertEqual(crossing([[1, 2], [0, 10 ** 30]]), [[0, 1], [0, 2], [1, 10 ** 30], [2, 10 ** 30]])

    def test_givings_and_cores(self):
        for _, book in drawn_books(224, 80):
            self.assertEqual(crossing(cores(book)), least_givings(book))
            self.assertEqual(crossing(least_givings(book)), cores(book))
            rings = [sorted(number for number, _ in ring) for ring in broken_rings(book)]
            self.assertEqual(crossing(rings), least_givings(book))

    def test_great(self):
        begun = time.time()
        rng = random.Random(225)
        for size in range(1, 13):
            rows = [list(row) for row in itertools.combinations(range(12), size)]
            rows = rng.sample(rows, min(500, len(rows)))
            found = crossing(rows)
            if len(rows) < 500:
                self.assertEqual(found, [list(lot) for lot in itertools.combinations(range(12), 13 - size)])
            self.assertEqual(crossing(found), sorted(rows))
        rows = [[number, number + 1] for number in range(0, 12, 2)]
        self.assertEqual(len(crossing(rows)), 64)
        self.assertEqual(crossing(crossing(rows)), rows)
        self.assertLess(time.time() - begun, 10)

    def test_refused(self):
        check_refusals(self, crossing, [("lots", [[0, 1], [2]], [(InvalidLines, NO_LISTS)])])


class Fewest(unittest.TestCase):
    def test_fewest(self):
        for _, book in drawn_books(226, 60):
            lines = book[1]
            least = least_givings(book)
            many = min(len(lot) for lot in least)
            fewest = [lot for lot in least if len(lot) == many]
            self.assertEqual(check_fresh(self, fewest_giving, book), fewest[0])
            self.assertEqual(how_many_fewest(book), len(fewest))
            self.assertEqual(check_fresh(self, never_given, book), quiet_lines(book))
            in_all = [number for number in range(len(lines)) if all(number in lot for lot in greatest_parts(book))]
            self.assertEqual(never_given(book), in_all)
            for number in range(len(lines)):
                without = [lot for lot in least if number not in lot]
                fewest = min(len(lot) for lot in without)
                self.assertEqual(check_fresh(self, staying, book, number),
                                 [lot for lot in without if len(lot) == fewest][0])

    def test_refused(self):
        for function in (least_givings, greatest_parts, fewest_giving, how_many_fewest, never_given):
            check_refusals(self, function, [("book", FIVE, BOOKS)])
        check_refusals(self, staying, [("book", FIVE, BOOKS), ("number", 0, [(InvalidNumber, NO_COUNTS + [5, 10 ** 30])])])
        with self.assertRaises(InvalidNumber):
            staying(("hours", []), 0)


class Orders(unittest.TestCase):
    def test_all_orders(self):
        unlike = 0
        for _, book in drawn_books(227, 30, 5):
            kind, lines = book
            first = {}
            for order in itertools.permutations(range(len(lines))):
                part = part_by(book, list(order))
                taken = []
                for number in order:
                    if can_be_kept((kind, at(lines, taken + [number]))):
                        taken.append(number)
                self.assertEqual(part, sorted(taken))
                first.setdefault(tuple(part), list(order))
            self.assertEqual(sorted(list(part) for part in first), greatest_parts(book))
            for part, order in first.items():
                self.assertEqual(check_fresh(self, order_for, book, list(part)), order)
                unlike += order != sorted(order)
                check_fresh(self, part_by, book, list(order))
        self.assertGreater(unlike, 10)

    def test_lines_first(self):
        for rng, book in drawn_books(228, 40):
            for part in greatest_parts(book):
                others = left_of(book[1], part)
                order = rng.sample(part, len(part)) + rng.sample(others, len(others))
                self.assertEqual(part_by(book, order), part)
                self.assertEqual(part_by(book, order_for(book, part)), part)

    def test_refused(self):
        wrong = [None, True, 0, "", "01234", (), (0, 1, 2, 3, 4), {}, [], [0, 1, 2, 3], [0, 1, 2, 3, 3], [1, 2, 3, 4, 5],
                 [0, 1, 2, 3, 4, 5], [0, 1, 2, 3, True], [False, 1, 2, 3, 4], ["0", 1, 2, 3, 4], [[0, 1, 2, 3, 4]],
                 [0, 1, 2, 3, None], [-1, 0, 1, 2, 3], [0, 1, 2, 3, [4]], [10 ** 30, 0, 1, 2, 3], InvalidNumber(0),
                 [0, 1, 2, InvalidNumber(3), 4]]
        check_refusals(self, part_by, [("book", FIVE, BOOKS), ("order", [4, 3, 2, 1, 0], [(InvalidNumber, wrong)])])
        wrong = NO_LOTS + [[], [0, 4], [0, 1], [0, 2], [0, 1, 2, 3, 4], [1, 2, 3]]
        check_refusals(self, order_for, [("book", FIVE, BOOKS), ("part", [0, 2, 4], [(InvalidLines, wrong)])])


class Weighed(unittest.TestCase):
    def test_by_trying(self):
        unlike = 0
        for rng, book in drawn_books(229, 60):
            least = least_givings(book)
            for most in (0, 3, 10 ** 30):
                weights = [rng.randint(0, most) for _ in book[1]]
                found = [sum(at(weights, lot)) for lot in least]
                lightest = [lot for lot, weight in zip(least, found) if weight == min(found)]
                self.assertEqual(check_fresh(self, lightest_giving, book, weights), (lightest[0], min(found)))
                for lot in lots(len(book[1])):
                    self.assertIs(is_lightest(book, weights, lot), lot in lightest)
                unlike += lightest[0] != fewest_giving(book)
                rings = [at(weights, [number for number, _ in ring]) for ring in broken_rings(book)]
                self.assertGreaterEqual(min(found), max([min(told) for told in rings], default=0))
        self.assertGreater(unlike, 20)

    def test_rings_apart(self):
        """If no rings have a line in common, a lightest line of each is taken."""
        for kind in KINDS:
            pairs = ["ab", "cd", "ef", "gh"]
            lines = [line_of(kind, *pair, ahead, 2) for pair in pairs for ahead in (0, 1)]
            weights = [5, 4, 7, 7, 0, 1, 9, 8]
            self.assertEqual(lightest_giving((kind, lines), weights), ([1, 2, 4, 7], 19))
            self.assertIs(is_lightest((kind, lines), weights, [1, 3, 4, 7]), True)
            self.assertIs(is_lightest((kind, lines), weights, [1, 3, 5, 7]), False)

    def test_refused(self):
        weights = [5, 1, 4, 2, 0]
        wrong = [None, True, 0, "", "51420", (), tuple(weights), {}, [], weights[:4], weights + [0], [[5, 1, 4, 2, 0]],
                 [5, 1, 4, 2, -1], [5, 1, 4, 2, True], [5, 1, False, 2, 0], [5, 1, "4", 2, 0], [5, 1, 4, None, 0],
                 [5, [1], 4, 2, 0], InvalidNumber(weights), {0: 5, 1: 1, 2: 4, 3: 2, 4: 0}]
        both = [("book", FIVE, BOOKS), ("weights", weights, [(InvalidNumber, wrong)])]
        check_refusals(self, lightest_giving, both)
        check_refusals(self, is_lightest, both + [("value", [1, 3], [])])
        for value in NO_LOTS + [[0], [2], [1, 3, 4], [], [1], [3], [True, 3]]:
            self.assertIs(is_lightest(FIVE, weights, value), False, value)
        with self.assertRaises(InvalidNumber):
            lightest_giving(("hours", []), [0])


class Limits(unittest.TestCase):
    def test_twelve_lines(self):
        begun = time.time()
        rng = random.Random(230)
        for kind in KINDS:
            for names in (2, 3, 4, 5, 12):
                for shared in (0, 60, 60 * 10 ** 27 if kind == "hours" else 60 << 34):
                    told = great_book(rng, kind, shared, 12)[1]
                    lines = []
                    for number, (_, _, ahead, by) in enumerate(told):
                        one, other = ((number, (number + 1) % 12) if names == 12 else rng.sample(range(names), 2))
                        one, other = great_names(12)[one], great_names(12)[other]
                        lines.append(line_of(kind, one, other, sum_of(kind, ahead, rng.randrange(2)), by))
                    book = (kind, lines)
                    least = least_givings(book)
                    parts = greatest_parts(book)
                    self.assertEqual(sorted(left_of(lines, lot) for lot in least), parts)
                    self.assertEqual(crossing(least), cores(book))
                    for part in parts[:5]:
                        self.assertIs(is_greatest_part(book, part), True)
                        self.assertEqual(part_by(book, order_for(book, part)), part)
                    weights = [rng.randrange(10 ** 30) for _ in lines]
                    lot, weight = lightest_giving(book, weights)
                    self.assertEqual(sum(at(weights, lot)), weight)
                    self.assertIs(is_lightest(book, weights, lot) and is_least_giving(book, lot), True)
                    self.assertEqual([number for number in range(12) if number not in sum(least, [])], never_given(book))
                    self.assertIn(staying(book, 3), least)
        self.assertLess(time.time() - begun, 15)

    def test_more_lines(self):
        """Beyond the limit nothing is refused."""
        for kind in KINDS:
            lines = [line_of(kind, "a", "b", rest_of(kind, number % 4, 4), 4) for number in range(36)]
            self.assertEqual(len(least_givings((kind, lines))), 4)
            self.assertEqual(how_many_fewest((kind, lines)), 4)
            rng = random.Random(231)
            book = told_book(rng, kind, list("abcd"), 16)
            self.assertEqual([least_givings(book), names_of(book[1]) != []], [[[]], True])


if __name__ == "__main__":
    unittest.main()
