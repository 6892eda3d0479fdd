"""[72] to [77]: levels."""

import itertools
import random
import time
import unittest

from hourrings.closed import closed_line
from hourrings.errors import AtOdds, InvalidName, InvalidNumber, TooMany
from hourrings.levels import (divisors_of, first_bad_level, hung, is_hung, joined_at, level, level_ring,
                              levels_joining, shortest_by_levels, told_by_levels)
from hourrings.rings import can_be_kept
from hourrings.shortest import is_shortest_broken, shortest_broken
from tests.test_shortest import many_divisors
from tests.trying import (BOOKS, KINDS, NO_COUNTS, ODD, THINGS, WRONG_NAMES, check_at_odds, check_fresh, check_refusals,
                          check_refused, difference, drawn_book, forms, gcd_of, goes_into, great_book, great_names,
                          great_number, is_tried_ring, keeps_line, lcm_of, line_of, lots, names_of, rest_of, sum_of,
                          told_book, tried_rings)

THREE = {"hours": ("hours", [("a", "b", 3, 12), ("b", "c", 5, 18), ("a", "c", 0, 4)]),
         "bits": ("bits", [("a", "b", 1, 6), ("b", "c", 2, 10), ("a", "c", 1, 2), ("c", "d", 0, 0)])}
OF_LEVEL = [("book", THREE["hours"], BOOKS), ("d", 2, [(InvalidNumber, NO_COUNTS)])]


def drawn_books(seed, many, most=6, kept=None):
    rng = random.Random(seed)
    for kind in KINDS:
        for at in range(many):
            names = ["a", "b", "c", "d"][:rng.choice([2, 3, 4, 4])]
            drawn = told_book if kept or kept is None and at % 2 else drawn_book
            yield rng, drawn(rng, kind, names, most)


def divisors_of_lots(kind, lines):
    found = set()
    for lot in lots(len(lines))[1:]:
        by = 0
        for number in lot:
            by = gcd_of(kind, by, lines[number][3])
        found.add(by)
    return sorted(found)


def levels_of(rng, kind, lines):
    """Divisors, and other numbers whose levels may be told."""
    return sorted(set(divisors_of_lots(kind, lines)) | {0, 1, 2, 3, rng.randrange(16), great_number(rng, kind)})


def joined_lists(lines):
    """The names that lines lead to one another, walked through from each name."""
    found = []
    for name in names_of(lines):
        if not any(name in part for part in found):
            part, left = {name}, [name]
            while left:
                here = left.pop()
                for line in lines:
                    for there in line[:2]:
                        if here in line[:2] and there not in part:
                            part.add(there)
                            left.append(there)
            found.append(sorted(part))
    return sorted(found)


def broken_by(kind, lines, ring, d):
    total = 0
    for number, way in ring:
        ahead = lines[number][2]
        total = sum_of(kind, total, ahead) if way == 1 else difference(kind, total, ahead)
    return not goes_into(kind, d, total)


def hangs(kind, lines, d, told):
    return all(goes_into(kind, d, difference(kind, told[other], sum_of(kind, ahead, told[one])))
               for one, other, ahead, _ in lines)


def rests_by(kind, d):
    if d == 0:
        return range(-4, 5) if kind == "hours" else range(8)
    return range(d if kind == "hours" else 1 << d.bit_length() - 1)


class Divisors(unittest.TestCase):
    def test_all_lots(self):
        for _, book in drawn_books(261, 80):
            kind, lines = book
            found = check_fresh(self, divisors_of, book)
            self.assertEqual(found, divisors_of_lots(kind, lines))
            for ring in tried_rings(lines):
                by = 0
                for number, _ in ring:
                    by = gcd_of(kind, by, lines[number][3])
                self.assertIn(by, found)
        for kind in KINDS:
            self.assertEqual(divisors_of((kind, [])), [])
            self.assertEqual(divisors_of((kind, [("a", "b", 3, 0), ("c", "a", 0, 1)])), [0, 1])

    def test_too_many(self):
        for kind in KINDS:
            book = many_divisors(kind, 300)
            begun = time.time()
            self.assertEqual(len(divisors_of(book)), 300)
            self.assertEqual([first_bad_level(book), shortest_by_levels(book)], [None, None])
            one, other = names_of(book[1])[1], names_of(book[1])[4]
            self.assertEqual(told_by_levels(book, one, other), closed_line(book, one, other))
            self.assertLessEqual(len(levels_joining(book, one, other)), 300)
            self.assertLess(time.time() - begun, 10)
            more = many_divisors(kind, 301)
            odd = (kind, more[1] + [(*more[1][0][:2], 1, more[1][0][3])])
            for told in (more, odd):
                calls = [(function, []) for function in (divisors_of, first_bad_level, shortest_by_levels)]
                calls += [(function, ["a", "b"]) for function in (levels_joining, told_by_levels)]
                for function, names in calls:
                    with self.assertRaises(TooMany) as caught:
                        function(told, *names)
                    self.assertEqual(caught.exception.value, 301)
                for wrong in WRONG_NAMES + ["a"]:
                    for function in (levels_joining, told_by_levels):
                        check_refused(self, function, InvalidName, wrong, ["book", "one", "other"], [told, "a", wrong])
                # The level of one number is told however many there are.
                self.assertEqual(len(level(told, 1)), len(told[1]))
                self.assertIs(hung(told, told[1][0][3]) is None, told is odd)
                self.assertIs(level_ring(told, told[1][0][3]) is None, told is more)


class Levels(unittest.TestCase):
    def test_by_trying(self):
        bad = 0
        for rng, book in drawn_books(262, 60):
            kind, lines = book
            for d in levels_of(rng, kind, lines):
                numbers = [number for number, line in enumerate(lines) if goes_into(kind, d, line[3])]
                self.assertEqual(check_fresh(self, level, book, d), numbers)
                told = [lines[number] for number in numbers]
                parts = joined_lists(told)
                self.assertEqual(check_fresh(self, joined_at, book, d), parts)
                rings = [ring for ring in tried_rings(told) if broken_by(kind, told, ring, d)]
                answer = check_fresh(self, hung, book, d)
                self.assertIs(answer is None, rings != [])
                if answer is not None:
                    self.assertEqual([name for name, _ in answer], names_of(told))
                    self.assertIs(hangs(kind, told, d, dict(answer)), True)
                    self.assertEqual([dict(answer)[part[0]] for part in parts], [0] * len(parts))
                    self.assertIs(all(d == 0 or rest in rests_by(kind, d) for _, rest in answer), True)
                    self.assertIs(is_hung(book, d, answer), True)
                ring = check_fresh(self, level_ring, book, d)
                bad += rings != []
                self.assertIs(ring is None, rings == [])
                if rings:
                    self.assertEqual(len(ring), min(len(told_ring) for told_ring in rings))
                    self.assertEqual(ring, min(forms(ring)))
                    self.assertIs(is_tried_ring(lines, ring) and broken_by(kind, lines, ring, d), True)
                    self.assertIs(all(number in numbers for number, _ in ring), True)
        self.assertGreater(bad, 30)

    def test_numbers_that_divide_in_one_kind_alone(self):
        lines = [("a", "b", 0, 25), ("b", "c", 0, 17), ("a", "c", 1, 5)]
        for kind, numbers in (("hours", [0, 2]), ("bits", [1, 2])):
            self.assertEqual(level((kind, lines), 5), numbers)
            self.assertEqual(joined_at((kind, lines), 5), [["a", "b", "c"]])
            self.assertEqual(dict(hung((kind, lines), 5)), {"a": 0, "b": 0 if kind == "hours" else 1, "c": 1})
            self.assertEqual(divisors_of((kind, lines)), [1, 5, 17, 25])
            self.assertIsNone(first_bad_level((kind, lines)))
            self.assertIs(is_hung((kind, lines), 5, [("a", 2), ("b", 2 if kind == "hours" else 3), ("c", 3)]), True)

    def test_judged(self):
        """All rests are tried, for small numbers and for 0."""
        hanging = 0
        for _, book in drawn_books(263, 40, 4):
            kind, lines = book
            for d in (0, 1, 2, 3, 4):
                told = [line for line in lines if goes_into(kind, d, line[3])]
                names = names_of(told)
                for row in itertools.product(rests_by(kind, d), repeat=min(3, len(names))):
                    row = row + (0,) * (len(names) - len(row))
                    right = hangs(kind, told, d, dict(zip(names, row)))
                    self.assertIs(is_hung(book, d, list(zip(names, row))), right)
                    hanging += right
        self.assertGreater(hanging, 300)

    def test_wrong_forms(self):
        book = THREE["hours"]
        self.assertIs(is_hung(book, 2, [("a", 1), ("b", 0), ("c", 1)]), True)
        for value in THINGS + [7, "abc", [("a", 0)], [("a", 0), ("b", 1)], [("a", 0), ("b", 1), ("c", 0), ("d", 0)],
                               (("a", 0), ("b", 1), ("c", 0)), [["a", 0], ["b", 1], ["c", 0]], [0, 1, 0],
                               [("b", 1), ("a", 0), ("c", 0)], [("a", 0), ("b", 1), ("c", 2)],
                               [("a", 0), ("b", 1), ("c", -2)], [("a", 0), ("b", 3), ("c", 0)],
                               [("a", False), ("b", True), ("c", False)], [("a", 0), ("b", True), ("c", 0)],
                               [("a", 0), ("b", 1), ("c", None)], [("a", 0), ("b", 1), ("c", "0")],
                               [("a", 0), ("b", 1), ("b", 1), ("c", 0)], [("a", 0), ("b", 1), ("x", 0)],
                               {"a": 0, "b": 1, "c": 0}, [[("a", 0), ("b", 1), ("c", 0)]], [("a", 0, 1), ("b", 1), ("c", 0)],
                               [("a", 0), ("b", 1), ("c", [0])], [("a", 0), None, ("c", 0)]]:
            self.assertIs(is_hung(book, 2, value), False, value)
            self.assertIs(is_hung(ODD["hours"], 2, value), False)
        # Of 0 all numbers are rests, for bits all counts; without lines the empty list hangs.
        exact = [("a", "b", 5, 0), ("b", "c", 0, 2)]
        self.assertIs(is_hung(("hours", exact), 0, [("a", -7), ("b", -2)]), True)
        self.assertIs(is_hung(("bits", exact), 0, [("a", 7), ("b", 2)]), True)
        self.assertIs(is_hung(("bits", exact), 0, [("a", -7), ("b", -2)]), False)
        for kind in KINDS:
            self.assertIs(is_hung((kind, exact), 7, []), False)
            self.assertIs(is_hung((kind, exact[1:]), 7, []), True)
            self.assertIs(is_hung((kind, exact[1:]), 7, [("b", 0)]), False)
            self.assertEqual([hung((kind, exact[1:]), 7), joined_at((kind, exact[1:]), 0), level((kind, []), 0)],
                             [[], [], []])
            self.assertEqual(hung((kind, exact), 1), [("a", 0), ("b", 0), ("c", 0)])
            self.assertEqual(hung((kind, exact), 2), [("a", 0), ("b", 1), ("c", 1)])
            self.assertEqual(hung((kind, exact), 0), [("a", 0), ("b", 5)])
        self.assertEqual(hung(("hours", [("b", "a", 5, 0)]), 0), [("a", 0), ("b", -5)])

    def test_refused(self):
        for function in (level, joined_at, hung, level_ring):
            check_refusals(self, function, OF_LEVEL)
        check_refusals(self, is_hung, OF_LEVEL + [("value", None, [])])
        for function in (divisors_of, first_bad_level, shortest_by_levels):
            check_refusals(self, function, OF_LEVEL[:1])


class Kept(unittest.TestCase):
    def test_bad_levels_and_rings(self):
        odd = 0
        for _, book in drawn_books(264, 150, 7, kept=False):
            kind, lines = book
            divisors = divisors_of(book)
            bad = [d for d in divisors if hung(book, d) is None]
            self.assertEqual(first_bad_level(book), bad[0] if bad else None)
            self.assertIs(can_be_kept(book), bad == [])
            answer = check_fresh(self, shortest_by_levels, book)
            self.assertIs(answer is None, bad == [])
            if answer is not None:
                odd += 1
                self.assertIsInstance(answer, tuple)
                rings = {d: level_ring(book, d) for d in bad}
                fewest = min(len(ring) for ring in rings.values())
                least = min(d for d in bad if len(rings[d]) == fewest)
                self.assertEqual([answer[0], len(answer[1])], [least, fewest])
                self.assertIs(broken_by(kind, lines, answer[1], least), True)
                self.assertEqual(answer[1], min(forms(answer[1])))
                self.assertIs(all(number in level(book, least) for number, _ in answer[1]), True)
                self.assertIs(is_shortest_broken(book, answer[1]), True)
                self.assertEqual(len(shortest_broken(book)), fewest)
        self.assertGreater(odd, 80)

    def test_exact_lines_first(self):
        for kind in KINDS:
            book = (kind, [("a", "b", 1, 0), ("b", "c", 0, 0), ("a", "c", 0, 0), ("a", "b", 0, 2)])
            self.assertEqual(first_bad_level(book), 0)
            self.assertEqual(shortest_by_levels(book), (2, [(0, -1), (3, 1)]))
            self.assertEqual(level_ring(book, 0), [(0, -1), (2, 1), (1, -1)])

    def test_joining(self):
        told = 0
        for rng, book in drawn_books(265, 80, 6, kept=True):
            kind, lines = book
            names = names_of(lines) + ["x"]
            for one, other in itertools.permutations(names, 2):
                joining = [d for d in divisors_of_lots(kind, lines)
                           if any(one in part and other in part for part in joined_at(book, d))]
                self.assertEqual(check_fresh(self, levels_joining, book, one, other), joining)
                by = 1
                for d in joining:
                    by = lcm_of(kind, by, d)
                line = told_by_levels(book, one, other)
                self.assertEqual(line, closed_line(book, one, other))
                self.assertIsInstance(line, tuple)
                self.assertEqual(line[3], by)
                for d in joining:
                    rests = dict(hung(book, d))
                    self.assertIs(keeps_line(kind, (one, other, rest_of(kind, line[2], d), d), rests), True)
                told += len(joining) > 1
        self.assertGreater(told, 100)

    def test_great(self):
        begun = time.time()
        rng = random.Random(266)
        for kind in KINDS:
            for shared in (0, 60, 60 * 10 ** 27 if kind == "hours" else 60 << 34):
                names = great_names(12)
                bys = [great_number(rng, kind), shared, 2 * shared, 240, 4]
                told = {name: great_number(rng, kind) for name in names}
                lines = []
                for at in range(40):
                    one, other = (names[at], names[at + 1]) if at < 11 else rng.sample(names, 2)
                    lines.append(line_of(kind, one, other, difference(kind, told[other], told[one]), rng.choice(bys)))
                book = (kind, lines)
                self.assertEqual([first_bad_level(book), shortest_by_levels(book)], [None, None])
                for one, other in ((names[0], names[11]), (names[5], names[2])):
                    self.assertEqual(told_by_levels(book, one, other), closed_line(book, one, other))
                one, other, ahead, by = lines[20]
                odd = (kind, lines[:20] + [line_of(kind, one, other, sum_of(kind, ahead, 1), by)] + lines[21:])
                self.assertIs(first_bad_level(odd) is None, can_be_kept(odd))
                answer = shortest_by_levels(odd)
                self.assertIs(answer is None, can_be_kept(odd))
                if answer is not None:
                    self.assertIs(is_shortest_broken(odd, answer[1]), True)
            self.assertEqual(len(hung(great_book(rng, kind, 60), 60)), 12)
        self.assertLess(time.time() - begun, 20)

    def test_refused(self):
        for kind in KINDS:
            names = [("one", "a", [(InvalidName, WRONG_NAMES)]), ("other", "c", [(InvalidName, WRONG_NAMES + ["a"])])]
            for function in (levels_joining, told_by_levels):
                check_refusals(self, function, [("book", THREE[kind], BOOKS)] + names)
                check_at_odds(self, function, [("book", ODD[kind], BOOKS)] + names)
                with self.assertRaises(AtOdds):
                    function(ODD[kind], "x", "y")


if __name__ == "__main__":
    unittest.main()
