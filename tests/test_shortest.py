"""[17] to [20]: shortest broken rings, least lots, quiet and saving lines, mended rings."""

import random
import time
import unittest

from hourrings.errors import InvalidBook, InvalidLines, InvalidNumber, InvalidRing, TooMany
from hourrings.rings import all_rings, broken_rings, can_be_kept, is_broken, is_ring, ring_off
from hourrings.shortest import (cores, is_core, is_shortest_broken, mended, quiet_lines, ring_of, saving_lines,
                                shortest_broken)
from tests.test_rings import BOOK, NO_RINGS, RING, side_by_side
from tests.trying import (BOOKS, KINDS, SPANS, THINGS, WRONG_BOOKS, check_fresh, check_refusals, difference,
                          drawn_book, forms, gcd_of, great_book, great_names, is_off, line_of, lots, names_of, sum_of,
                          times, tried, tried_rings)

BOTH = ("hours", BOOK[1] + [("c", "d", 0, 4)])
NO_LOTS = [None, True, 0, "", "01", (), (0, 1), {}, {0: 1}, [1, 0], [0, 0], [-1], [-1, 0], [4], [0, 4], [0, True],
           [False, 1], ["0"], [None], [[0]], [(0,)], [0, [1]], [(0, 1), (1, 1)], InvalidLines([0])]
# Numbers without a divisor in common, and words without one.
PRIMES = {"hours": [3, 5, 7, 11, 13, 17, 19, 23], "bits": [3, 7, 11, 13, 19, 25, 37, 41]}
MORE_PRIMES = {"hours": [29, 31, 37, 41, 43], "bits": [31, 47, 55, 59, 61]}


def all_but_one(kind, primes):
    """The products of all primes but one: each lot of them has a divisor of its own."""
    bys = []
    for left_out in primes:
        by = 1
        for prime in primes:
            by = by if prime == left_out else times(kind, by, prime)
        bys.append(by)
    return bys


def many_divisors(kind, many):
    """A book of which 285 divisors and a chain of further ones are known."""
    firsts, seconds = all_but_one(kind, PRIMES[kind]), all_but_one(kind, MORE_PRIMES[kind])
    whole = times(kind, seconds[0], MORE_PRIMES[kind][0])
    # Each is twice, or once moved up, the one ahead of it: so each is one divisor more.
    chain = [whole << at for at in range(1, many - 285 + 1)]
    bys = firsts + chain + seconds
    names = great_names(12)
    return (kind, [(names[at % 11], names[at % 11 + 1], 0, by) for at, by in enumerate(bys)])


def tried_divisors(kind, lines):
    found = {line[3] for line in lines}
    while True:
        more = found | {gcd_of(kind, one, other) for one in found for other in found}
        if more == found:
            return sorted(found)
        found = more


def drawn_books(seed, many, most=7):
    rng = random.Random(seed)
    for kind in KINDS:
        for _ in range(many):
            yield drawn_book(rng, kind, ["a", "b", "c", "d"][:rng.choice([2, 3, 4])], most)


class Shortest(unittest.TestCase):
    def test_against_all_rings(self):
        odd = 0
        for book in drawn_books(21, 120):
            kind, lines = book
            rings = all_rings(book)
            broken = [ring for ring in rings if is_off(kind, lines, ring)]
            fewest = min([len(ring) for ring in broken], default=0)
            found = shortest_broken(book)
            if not broken:
                self.assertIsNone(found)
            else:
                odd += 1
                self.assertIs(is_ring(book, found) and is_broken(book, found), True)
                self.assertEqual(len(found), fewest)
                self.assertIs(is_shortest_broken(book, found), True)
            for ring in rings:
                right = ring in broken and len(ring) == fewest
                for form in forms(ring):
                    self.assertIs(is_shortest_broken(book, form), right)
            check_fresh(self, shortest_broken, book)
        self.assertGreater(odd, 60)

    def test_long_rings(self):
        """Only the ring of all twelve names is broken: all others say less together."""
        for kind in KINDS:
            names = great_names(12)
            by = 12 if kind == "hours" else 45
            lines = [line_of(kind, names[at], names[(at + 1) % 12], 1 if at == 4 else 0, by) for at in range(12)]
            lines += [(names[at], names[at + 2], 0, 1) for at in range(10)] + [(names[0], names[1], 0, 1)] * 3
            found = shortest_broken((kind, lines))
            self.assertEqual(sorted(number for number, _ in found), list(range(12)))
            self.assertIs(is_shortest_broken((kind, lines), [(at, 1) for at in range(12)]), True)
            self.assertIs(is_shortest_broken((kind, lines), [(0, 1), (12, -1)]), False)

    def test_wrong_forms(self):
        for value in THINGS + NO_RINGS:
            self.assertIs(is_shortest_broken(BOOK, value), False, value)
        good = ("hours", [("a", "b", 1, 2), ("a", "b", 3, 4)])
        self.assertIsNone(shortest_broken(good))
        self.assertIs(is_shortest_broken(good, [(0, 1), (1, -1)]), False)
        self.assertIs(is_shortest_broken(("bits", []), []), False)

    def test_three_hundred_divisors(self):
        for kind in KINDS:
            book = many_divisors(kind, 300)
            self.assertEqual(len(tried_divisors(kind, book[1])), 300)
            self.assertEqual(len(tried_divisors(kind, many_divisors(kind, 301)[1])), 301)
            begun = time.time()
            self.assertIsNone(shortest_broken(book))
            self.assertIs(is_shortest_broken(book, [(0, 1), (11, -1)]), False)
            one, other, _, by = book[1][0]
            odd = (kind, book[1] + [(one, other, 1, by)])
            self.assertIs(is_shortest_broken(odd, [(0, 1), (len(book[1]), -1)]), True)
            self.assertEqual(len(shortest_broken(odd)), 2)
            self.assertLess(time.time() - begun, 10)

    def test_too_many_divisors(self):
        for kind in KINDS:
            book = many_divisors(kind, 301)
            odd = (kind, book[1] + [book[1][0][:2] + (1, book[1][0][3])])
            for told in (book, odd):
                calls = [(shortest_broken, [])]
                calls += [(is_shortest_broken, [value]) for value in THINGS + [[(0, 1), (11, -1)]]]
                for function, values in calls:
                    with self.assertRaises(TooMany) as caught:
                        function(told, *values)
                    self.assertEqual(caught.exception.value, 301)
            self.assertIs(can_be_kept(book), True)
            self.assertIs(can_be_kept(odd), False)

    def test_great_books(self):
        rng = random.Random(22)
        begun = time.time()
        for kind in KINDS:
            for shared in (0, 5, 60):
                lines = great_book(rng, kind, shared, 30)[1]
                bys = [0, 60, 120, 240]
                lines = [line_of(kind, *line[:3], rng.choice(bys) if line[3] else 0) for line in lines]
                found = shortest_broken((kind, lines))
                self.assertEqual(found is None, can_be_kept((kind, lines)))
                if found is not None:
                    self.assertIs(is_broken((kind, lines), found), True)
        self.assertLess(time.time() - begun, 10)

    def test_refused(self):
        check_refusals(self, shortest_broken, [("book", BOOK, BOOKS)])
        check_refusals(self, is_shortest_broken, [("book", BOOK, BOOKS), ("value", None, [])])


class Cores(unittest.TestCase):
    def test_by_trying(self):
        """Lots of lines that no numbers keep, while some keep each lesser lot."""
        rng = random.Random(23)
        for kind in KINDS:
            found = 0
            for _ in range(30):
                book = drawn_book(rng, kind, ["a", "b", "c"], 5)
                lines = book[1]
                odd = [lot for lot in lots(len(lines))
                       if not tried(kind, [lines[at] for at in lot], names_of(lines), SPANS[kind])]
                least = [lot for lot in odd if not any(set(other) < set(lot) for other in odd)]
                self.assertEqual(cores(book), sorted(least))
                for lot in lots(len(lines)):
                    self.assertIs(is_core(book, lot), lot in least)
                saving = [at for at in range(len(lines)) if all(at in lot for lot in odd)]
                self.assertEqual(saving_lines(book), saving)
                found += len(least)
            self.assertGreater(found, 12)

    def test_by_rings(self):
        for book in drawn_books(24, 40, 6):
            kind, lines = book
            rings = tried_rings(lines)
            broken = [ring for ring in rings if is_off(kind, lines, ring)]
            lots_of_rings = {tuple(sorted(number for number, _ in ring)): ring for ring in rings}
            self.assertEqual(cores(book), sorted(sorted(number for number, _ in ring) for ring in broken))
            for lot in lots(len(lines)):
                ring = lots_of_rings.get(tuple(lot))
                self.assertEqual(ring_of(book, lot), ring)
                self.assertIs(is_core(book, lot), ring in broken)
            loud = {number for ring in broken for number, _ in ring}
            self.assertEqual(quiet_lines(book), [at for at in range(len(lines)) if at not in loud])
            self.assertEqual(saving_lines(book), [at for at in range(len(lines))
                                                  if all(at in [number for number, _ in ring] for ring in broken)])
            for function in (cores, quiet_lines, saving_lines):
                check_fresh(self, function, book)
            for lot in cores(book):
                self.assertLessEqual(len(lot), len(names_of(lines)))
                check_fresh(self, ring_of, book, lot)

    def test_left_out_quiet_lines(self):
        """Whatever quiet lines are left out, the broken rings stay the same rings of lines."""
        for book in drawn_books(25, 30):
            kind, lines = book
            quiet = quiet_lines(book)
            left = [at for at in range(len(lines)) if at not in quiet[::2]]
            less = (kind, [lines[at] for at in left])
            self.assertEqual([[left[at] for at in lot] for lot in cores(less)], cores(book))

    def test_lots_that_make_no_ring(self):
        lines = [("a", "b", 0, 2), ("b", "a", 1, 2), ("b", "c", 0, 2), ("c", "d", 0, 2), ("d", "c", 1, 2),
                 ("d", "a", 0, 2)]
        book = ("hours", lines)
        for lot in ([], [0], [0, 2], [0, 1, 2], [0, 1, 3, 4], [0, 1, 2, 3, 4, 5], [0, 2, 3], [2, 3, 5]):
            self.assertIsNone(ring_of(book, lot))
            self.assertIs(is_core(book, lot), False)
        self.assertEqual(ring_of(book, [0, 1]), [(0, -1), (1, -1)])
        self.assertEqual(ring_of(book, [0, 2, 3, 5]), [(0, -1), (5, -1), (3, -1), (2, -1)])
        self.assertEqual(ring_of(book, [1, 2, 4, 5]), [(1, -1), (2, 1), (4, -1), (5, 1)])
        self.assertIs(is_core(book, [0, 2, 3, 5]), False)
        self.assertIs(is_core(book, [1, 2, 3, 5]), True)

    def test_wrong_forms(self):
        for value in THINGS + NO_LOTS:
            self.assertIs(is_core(BOOK, value), False, value)

    def test_many_rings(self):
        for kind in KINDS:
            for function in (cores, quiet_lines):
                function(side_by_side(kind, [32, 3, 2]))
                with self.assertRaises(TooMany) as caught:
                    function(side_by_side(kind, [32, 3, 2, 2]))
                self.assertEqual(caught.exception.value, 501)
            book = side_by_side(kind, [38])
            self.assertEqual(saving_lines(book), list(range(38)))
            self.assertIs(is_core(book, [0, 1]), False)
            odd = (kind, book[1] + [("a0", "b0", 1, 2)])
            self.assertEqual(saving_lines(odd), [38])
            self.assertIs(is_core(odd, [0, 38]), True)
            self.assertEqual(ring_of(odd, [5, 38]), [(5, -1), (38, 1)])

    def test_refused(self):
        for function in (cores, quiet_lines, saving_lines):
            check_refusals(self, function, [("book", BOOK, BOOKS)])
        check_refusals(self, is_core, [("book", BOOK, BOOKS), ("value", None, [])])
        check_refusals(self, ring_of, [("book", BOOK, BOOKS), ("lot", [0, 1], [(InvalidLines, NO_LOTS[:5] +
                                                                                NO_LOTS[6:])])])
        check_refusals(self, ring_of, [("book", BOOK, BOOKS), ("lot", [], [(InvalidLines, [(), None])])])

    def test_great_books(self):
        rng = random.Random(26)
        begun = time.time()
        for kind in KINDS:
            for shared in (0, 1, 6):
                book = great_book(rng, kind, shared)
                self.assertEqual(saving_lines(book), list(range(40)))
                one, other, ahead, by = book[1][12]
                odd = (kind, book[1][:12] + [line_of(kind, one, other, ahead ^ 1, by)] + book[1][13:])
                saving = saving_lines(odd)
                self.assertEqual(12 in saving, True)
                for at in range(40):
                    self.assertEqual(at in saving, can_be_kept((kind, odd[1][:at] + odd[1][at + 1:])))
        self.assertLess(time.time() - begun, 20)


class Mended(unittest.TestCase):
    def check(self, book, ring):
        kind, lines = book
        off = ring_off(book, ring)
        ways = dict(min(forms(ring)))
        for number, way in ways.items():
            answer = mended(book, ring, number)
            one, other, ahead, by = lines[number]
            ahead = difference(kind, ahead, off) if way == 1 else sum_of(kind, ahead, off)
            changed = lines[:number] + [line_of(kind, one, other, ahead, by)] + lines[number + 1:]
            self.assertEqual(answer, (kind, changed))
            self.assertIsInstance(answer, tuple)
            self.assertIs(is_broken(answer, ring), False)
            self.assertEqual(answer == book, off == 0)

    def test_all_rings(self):
        broken = 0
        for book in drawn_books(27, 60):
            for ring in all_rings(book):
                for form in forms(ring):
                    self.check(book, form)
                check_fresh(self, mended, book, ring, ring[0][0])
            broken += len(broken_rings(book))
        self.assertGreater(broken, 50)

    def test_no_other_line_mends(self):
        for book in drawn_books(28, 20, 5):
            kind, lines = book
            for ring in broken_rings(book):
                numbers = [number for number, _ in ring]
                for at in range(len(lines)):
                    one, other, _, by = lines[at]
                    turned = [line_of(kind, one, other, ahead, by) for ahead in range(8)]
                    mends = [not is_broken((kind, lines[:at] + [line] + lines[at + 1:]), ring) for line in turned]
                    if at not in numbers:
                        self.assertNotIn(True, mends)

    def test_exact_lines(self):
        book = ("hours", [("a", "b", -5, 0), ("a", "b", 9, 0), ("b", "a", 3, 12)])
        self.assertEqual(mended(book, [(0, 1), (1, -1)], 0)[1][0], ("a", "b", 9, 0))
        self.assertEqual(mended(book, [(0, 1), (1, -1)], 1)[1][1], ("a", "b", -5, 0))
        self.assertEqual(mended(book, [(0, 1), (2, 1)], 2)[1][2], ("b", "a", 5, 12))
        self.assertEqual(mended(book, [(1, 1), (2, 1)], 2)[1], book[1])

    def test_a_list_of_its_own(self):
        book = ("hours", [("a", "b", 1, 2), ("a", "b", 3, 4)])
        answer = mended(book, [(0, 1), (1, -1)], 1)
        self.assertEqual(answer, book)
        self.assertIsNot(answer[1], book[1])

    def test_refused(self):
        rings = ("ring", RING, [(InvalidRing, NO_RINGS)])
        wrong = [None, True, False, "0", [0], (0,), 3, 4, -1, 10 ** 30, (0, 1), (0, -1), {}, InvalidNumber(0)]
        check_refusals(self, mended, [("book", BOOK, BOOKS), rings, ("number", 0, [(InvalidNumber, wrong)])])
        good = ("hours", [("a", "b", 1, 2), ("a", "b", 3, 4), ("b", "c", 0, 4)])
        check_refusals(self, mended, [("book", good, [(InvalidBook, WRONG_BOOKS)]),
                                      ("ring", [(0, 1), (1, -1)], [(InvalidRing, [[(0, 1)], None])]),
                                      ("number", 1, [(InvalidNumber, [2, True, None])])])


if __name__ == "__main__":
    unittest.main()
