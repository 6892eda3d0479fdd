"""[10] to [13]: rests and lines."""

import itertools
import random
import time
import unittest

from hourrings.books import is_line, keeps
from hourrings.errors import InvalidKind, InvalidLine, InvalidLines, InvalidNumber, Unlike
from hourrings.rests import (agree, first_apart, how_many_keep, is_weaker, joined_line, kept_numbered, met_line,
                             met_rest, met_rests, turned_line)
from tests.trying import (KINDS, NO_COUNTS, WRONG_KINDS, WRONG_LINES, check_fresh, check_refusals, difference, gcd_of,
                          goes_into, lcm_of, line_of, rest_of, sum_of, times)

NO_RESTS = [None, True, 0, "", "ab", (), (1,), (1, 2, 3), [1, 2], ((1, 2),), [(1, 2)], (2, 2), (1, 1), (-1, 2),
            (1, -2), (True, 2), (0, True), (False, 0), ("1", 2), (1, "2"), (1, None), ([1], 2), {1: 2},
            ("a", "b", 1, 2), InvalidLine((1, 2))]
WRONG_RESTS = {"hours": NO_RESTS + [(12, 12), (5, 3)], "bits": NO_RESTS + [(4, 5), (-7, 0), (2, 3)]}
SPAN = {"hours": range(-60, 120), "bits": range(256)}


def rests_of(kind):
    """Rests with small bys, 0 and 1 among them."""
    exact = [(at, 0) for at in ((-7, -1, 0, 1, 5, 12) if kind == "hours" else (0, 1, 6, 13))]
    many = {by: by if kind == "hours" else 1 << by.bit_length() - 1 for by in range(1, 9)}
    return [(at, by) for by in range(1, 9) for at in range(many[by])] + exact


def keeps_rest(kind, number, told):
    return goes_into(kind, told[1], difference(kind, number, told[0]))


def kept(kind, rests, span):
    return [number for number in span if all(keeps_rest(kind, number, told) for told in rests)]


def kinds(kind):
    return ("kind", kind, [(InvalidKind, WRONG_KINDS)])


class TwoRests(unittest.TestCase):
    def test_all_small(self):
        for kind in KINDS:
            for one, other in itertools.product(rests_of(kind), repeat=2):
                found = kept(kind, (one, other), SPAN[kind])
                self.assertIs(agree(kind, one, other), found != [], (kind, one, other))
                met = met_rest(kind, one, other)
                if not found:
                    self.assertIsNone(met)
                    continue
                self.assertEqual(found, kept(kind, [met], SPAN[kind]))
                self.assertIsInstance(met, tuple)
                upper = times(kind, one[1], other[1])
                self.assertEqual(times(kind, met[1], gcd_of(kind, one[1], other[1])), upper)
                self.assertEqual(met[0], rest_of(kind, met[0], met[1]))
                self.assertEqual(met, met_rest(kind, other, one))

    def test_by_one_and_nought(self):
        for kind in KINDS:
            self.assertEqual(met_rest(kind, (0, 1), (0, 1)), (0, 1))
            self.assertEqual(met_rest(kind, (0, 1), (3, 5)), (3, 5))
            self.assertEqual(met_rest(kind, (7, 0), (0, 1)), (7, 0))
            self.assertEqual(met_rest(kind, (7, 0), (7, 0)), (7, 0))
            self.assertIsNone(met_rest(kind, (7, 0), (6, 0)))
            self.assertIs(agree(kind, (7, 0), (6, 0)), False)
        self.assertEqual(met_rest("hours", (-7, 0), (1, 4)), (-7, 0))
        self.assertIsNone(met_rest("hours", (2, 4), (-7, 0)))

    def test_great(self):
        rng = random.Random(6)
        for kind in KINDS:
            top = 10 ** 14 if kind == "hours" else 2 ** 20
            for _ in range(60):
                shared, two, three = (rng.randrange(1, top) for _ in range(3))
                bys = times(kind, shared, two), times(kind, shared, three)
                number = rng.randrange(top)
                one, other = [(rest_of(kind, number, by), by) for by in bys]
                self.assertIs(agree(kind, one, other), True)
                met = met_rest(kind, one, other)
                self.assertTrue(keeps_rest(kind, number, met))
                self.assertTrue(keeps_rest(kind, met[0], one) and keeps_rest(kind, met[0], other))
                bent = (rest_of(kind, sum_of(kind, other[0], 1), other[1]), other[1])
                odd = gcd_of(kind, *bys) != 1
                self.assertIs(agree(kind, one, bent), not odd)
                self.assertEqual(met_rest(kind, one, bent) is None, odd)

    def test_refused(self):
        for kind in KINDS:
            wrong = [(InvalidLine, WRONG_RESTS[kind])]
            for function in (agree, met_rest):
                check_refusals(self, function, [kinds(kind), ("one", (1, 4), wrong), ("other", (1, 2), wrong)])


class ManyRests(unittest.TestCase):
    def drawn(self, kind, rng):
        rests = rests_of(kind)
        if rng.random() < 0.5:
            number = rng.randrange(60)
            rests = [told for told in rests if keeps_rest(kind, number, told)]
        return [rng.choice(rests) for _ in range(rng.randrange(6))]

    def test_drawn(self):
        rng = random.Random(9)
        for kind in KINDS:
            span = range(-200, 1700) if kind == "hours" else range(1024)
            for _ in range(300):
                rests = self.drawn(kind, rng)
                apart = [(at, other) for at, other in itertools.combinations(range(len(rests)), 2)
                         if not kept(kind, [rests[at], rests[other]], SPAN[kind])]
                self.assertEqual(first_apart(kind, rests), min(apart, default=None))
                found = kept(kind, rests, span)
                met = met_rests(kind, rests)
                # What holds by twos holds all together.
                self.assertEqual(met is None, apart != [])
                self.assertEqual(found, [] if met is None else kept(kind, [met], span))
                if met is not None:
                    by = 1
                    for told in rests:
                        by = lcm_of(kind, by, told[1])
                    self.assertEqual(met[1], by)
                    self.assertEqual(rest_of(kind, met[0], met[1]), met[0])

    def test_none_at_all(self):
        for kind in KINDS:
            self.assertEqual(met_rests(kind, []), (0, 1))
            self.assertIsNone(first_apart(kind, []))
            self.assertIsNone(first_apart(kind, [(1, 2)]))
            self.assertEqual(how_many_keep(kind, [], 5), 5 if kind == "hours" else 32)
            self.assertEqual(kept_numbered(kind, [], 77), 77)

    def test_several_apart(self):
        self.assertEqual(first_apart("hours", [(0, 3), (0, 2), (1, 4), (0, 4), (1, 6)]), (0, 4))
        self.assertEqual(first_apart("hours", [(0, 1), (0, 2), (1, 4), (0, 4), (1, 2)]), (1, 2))
        self.assertEqual(first_apart("bits", [(0, 5), (1, 8), (0, 2), (1, 3), (1, 2)]), (0, 3))
        self.assertIsNone(met_rests("hours", [(0, 3), (0, 2), (1, 4)]))

    def test_how_many_and_which(self):
        rng = random.Random(10)
        for kind in KINDS:
            for _ in range(250):
                rests = self.drawn(kind, rng)[:3]
                found = kept(kind, rests, range(2048))
                for size in (0, 1, 2, 3, 7, 9, 10, 11):
                    most = size if kind == "hours" else 1 << size
                    self.assertEqual(how_many_keep(kind, rests, size), len([one for one in found if one < most]))
                for at, number in enumerate(found[:60]):
                    self.assertEqual(kept_numbered(kind, rests, at), number)
                met = met_rests(kind, rests)
                if met is None or met[1] == 0:
                    self.assertIsNone(kept_numbered(kind, rests, len(found)))
                    self.assertIsNone(kept_numbered(kind, rests, 10 ** 29))

    def test_great_sizes(self):
        self.assertEqual(how_many_keep("hours", [(1, 4), (0, 3)], 10 ** 30), 83333333333333333333333333333)
        self.assertEqual(how_many_keep("bits", [(1, 5), (1, 2)], 300), 2 ** 297)
        self.assertEqual(how_many_keep("bits", [(13, 0)], 300), 1)
        self.assertEqual([how_many_keep("bits", [(13, 0)], size) for size in (3, 4)], [0, 1])
        self.assertEqual([how_many_keep("hours", [(13, 0)], size) for size in (13, 14)], [0, 1])
        self.assertEqual([how_many_keep("bits", [(5, 32)], size) for size in (2, 3, 4, 5, 6)], [0, 1, 1, 1, 2])
        self.assertEqual(how_many_keep("hours", [(-3, 0)], 10 ** 30), 0)
        self.assertEqual(how_many_keep("hours", [(-1, 0)], 10 ** 30), 0)
        self.assertEqual(kept_numbered("hours", [(3, 4)], 10 ** 29), 3 + 4 * 10 ** 29)
        self.assertEqual(kept_numbered("bits", [(3, 4)], 10 ** 29), 3 + 4 * 10 ** 29)
        self.assertIsNone(kept_numbered("hours", [(-3, 0)], 0))
        self.assertIsNone(kept_numbered("hours", [(-1, 0)], 0))
        self.assertEqual([kept_numbered("hours", [(3, 0)], at) for at in (0, 1, 9)], [3, None, None])
        self.assertIsNone(kept_numbered("bits", [(0, 2), (1, 2)], 0))
        self.assertEqual(how_many_keep("bits", [(0, 2), (1, 2)], 9), 0)

    def test_great_lists(self):
        rng = random.Random(12)
        begun = time.time()
        for kind in KINDS:
            top = 10 ** 30 if kind == "hours" else 2 ** 100
            number = rng.randrange(top)
            rests = []
            for _ in range(40):
                by = rng.randrange(1, top)
                rests.append((rest_of(kind, number, by), by))
            met = met_rests(kind, rests)
            self.assertTrue(all(keeps_rest(kind, met[0], told) for told in rests))
            self.assertEqual(met[0], number)
            self.assertIsNone(first_apart(kind, rests))
            self.assertEqual(kept_numbered(kind, rests, 0), number)
            self.assertEqual(how_many_keep(kind, rests, 10 ** 30 if kind == "hours" else 300), 1)
        self.assertLess(time.time() - begun, 10)

    def test_refused(self):
        for kind in KINDS:
            wrong = [None, True, 0, "", (1, 2), ((1, 2),), (), {}, {1: 2}, [[1, 2]], [[(1, 2)]]]
            wrong += [[(1, 2), told] for told in WRONG_RESTS[kind]]
            rests = ("rests", [(0, 2), (1, 3)], [(InvalidLines, wrong)])
            for function in (met_rests, first_apart):
                check_refusals(self, function, [kinds(kind), rests])
            for function, name in ((how_many_keep, "size"), (kept_numbered, "number")):
                check_refusals(self, function, [kinds(kind), rests, (name, 4, [(InvalidNumber, NO_COUNTS)])])

    def test_fresh(self):
        rests = [(1, 2), (2, 3), (4, 5)]
        check_fresh(self, met_rests, "hours", rests)
        check_fresh(self, first_apart, "hours", rests)
        check_fresh(self, how_many_keep, "hours", rests, 9)
        check_fresh(self, kept_numbered, "hours", rests, 9)


def lines_of(kind, one, other):
    return [(one, other, *told) for told in rests_of(kind)]


class Turned(unittest.TestCase):
    def test_all_small(self):
        for kind in KINDS:
            for line in lines_of(kind, "a", "b"):
                turned = turned_line(kind, line)
                self.assertEqual(turned, line_of(kind, "b", "a", difference(kind, 0, line[2]), line[3]))
                self.assertTrue(is_line(kind, turned))
                self.assertEqual(turned_line(kind, turned), line)
                for one, other in itertools.product(range(6), range(9)):
                    numbers = [("a", one), ("b", other)]
                    self.assertEqual(keeps(kind, line, numbers), keeps(kind, turned, numbers))

    def test_refused(self):
        for kind in KINDS:
            line = ("line", ("a", "b", 1, 2), [(InvalidLine, WRONG_LINES[kind])])
            check_refusals(self, turned_line, [kinds(kind), line])


class Joined(unittest.TestCase):
    def test_all_small(self):
        for kind in KINDS:
            for one, other in itertools.product(lines_of(kind, "a", "b")[::2], lines_of(kind, "b", "c")[::2]):
                joined = joined_line(kind, one, other)
                by = gcd_of(kind, one[3], other[3])
                self.assertEqual(joined, line_of(kind, "a", "c", sum_of(kind, one[2], other[2]), by))
                # It follows, and nothing stronger does: the sums of numbers of both rests are all over its rest.
                span = SPAN[kind] if kind == "bits" else range(-60, 60)
                ends = sorted({sum_of(kind, x, y) for x in kept(kind, [one[2:]], span)
                               for y in kept(kind, [other[2:]], span)})
                self.assertTrue(all(keeps_rest(kind, end, joined[2:]) for end in ends))
                strongest = 0
                for end in ends:
                    strongest = gcd_of(kind, strongest, difference(kind, end, ends[0]))
                self.assertEqual(strongest, by)

    def test_unlike(self):
        line = ("a", "b", 1, 2)
        for other in (("a", "b", 1, 2), ("b", "a", 1, 2), ("a", "c", 1, 2), ("c", "b", 1, 2), ("c", "d", 1, 2),
                      ("c", "a", 1, 2)):
            with self.assertRaises(Unlike) as caught:
                joined_line("hours", line, other)
            self.assertIs(caught.exception.value, other)

    def test_refused(self):
        for kind in KINDS:
            wrong = (InvalidLine, WRONG_LINES[kind])
            unlike = (Unlike, [("b", "a", 1, 2), ("c", "d", 0, 1), ("a", "b", 1, 2)])
            check_refusals(self, joined_line, [kinds(kind), ("one", ("a", "b", 1, 2), [wrong]),
                                               ("other", ("b", "c", 1, 0), [wrong, unlike])])


class Met(unittest.TestCase):
    def test_all_small(self):
        for kind in KINDS:
            for one, other in itertools.product(lines_of(kind, "a", "b")[::2], repeat=2):
                met = met_rest(kind, one[2:], other[2:])
                line = None if met is None else ("a", "b", *met)
                self.assertEqual(met_line(kind, one, other), line)
                self.assertEqual(met_line(kind, one, turned_line(kind, other)), line)
                back = None if line is None else turned_line(kind, line)
                self.assertEqual(met_line(kind, turned_line(kind, one), other), back)

    def test_unlike(self):
        for other in (("a", "c", 1, 2), ("c", "a", 1, 2), ("b", "c", 0, 1), ("c", "d", 1, 2)):
            with self.assertRaises(Unlike) as caught:
                met_line("hours", ("a", "b", 1, 2), other)
            self.assertIs(caught.exception.value, other)

    def test_refused(self):
        for kind in KINDS:
            wrong = (InvalidLine, WRONG_LINES[kind])
            unlike = (Unlike, [("a", "c", 1, 2), ("c", "d", 0, 1)])
            check_refusals(self, met_line, [kinds(kind), ("one", ("a", "b", 1, 2), [wrong]),
                                            ("other", ("b", "a", 1, 0), [wrong, unlike])])


class Weaker(unittest.TestCase):
    def test_two_names(self):
        for kind in KINDS:
            span = range(-70, 70) if kind == "hours" else range(128)
            for one, other in itertools.product(lines_of(kind, "a", "b"), repeat=2):
                held = all(keeps_rest(kind, number, other[2:]) for number in kept(kind, [one[2:]], span))
                self.assertIs(is_weaker(kind, one, other), held, (kind, one, other))
                self.assertIs(is_weaker(kind, one, turned_line(kind, other)), held)
                self.assertIs(is_weaker(kind, turned_line(kind, one), other), held)

    def test_other_names(self):
        for kind in KINDS:
            for one, told in itertools.product(lines_of(kind, "a", "b")[::3], rests_of(kind)):
                for pair in (("a", "c"), ("c", "b"), ("b", "c"), ("c", "d")):
                    self.assertIs(is_weaker(kind, one, (*pair, *told)), told[1] == 1)

    def test_refused(self):
        for kind in KINDS:
            wrong = [(InvalidLine, WRONG_LINES[kind])]
            check_refusals(self, is_weaker, [kinds(kind), ("one", ("a", "b", 1, 2), wrong),
                                             ("other", ("c", "a", 1, 0), wrong)])


if __name__ == "__main__":
    unittest.main()
