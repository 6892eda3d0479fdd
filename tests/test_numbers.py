"""[4], [8], [9]: the numbers of both kinds."""

import itertools
import random
import time
import unittest

from hourrings.errors import InvalidKind, InvalidNumber
from hourrings.kinds import KINDS
from hourrings.numbers import (added, divisor, divisor_paper, is_divisor_paper, is_multiple, less, multiple, product,
                               quotient, rest)
from tests.trying import (NO_COUNTS, NO_NUMBERS, THINGS, WRONG_KINDS, WRONG_NUMBERS, bits_rest, bits_times,
                          check_fresh, check_refusals, gcd_of, goes_into, sum_of, times)

TWO = [added, less, product, divisor, multiple, divisor_paper]
SMALL = {"hours": range(-13, 14), "bits": range(32)}


def pairs(kind):
    return itertools.product(SMALL[kind], repeat=2)


def great_pairs(kind):
    """Numbers of 30 figures, and words of 40 and of 100 bits, some of which have much in common."""
    rng = random.Random(7)
    for _ in range(40):
        sizes = (10 ** 15, 10 ** 30) if kind == "hours" else (2 ** 20, 2 ** 40, 2 ** 100)
        low, high = rng.randrange(1, sizes[0]), rng.randrange(1, sizes[-1])
        shared = rng.randrange(1, sizes[0])
        yield high, rng.randrange(sizes[-1])
        if kind == "hours":
            yield low * shared, -shared * rng.randrange(10 ** 15)
            yield -high, low
        else:
            yield bits_times(low, shared), bits_times(shared, rng.randrange(2 ** 20))
        yield 0, high
        yield high, 0
        yield high, high


class Sums(unittest.TestCase):
    def test_small(self):
        for one, other in pairs("hours"):
            self.assertEqual(added("hours", one, other), one + other)
            self.assertEqual(less("hours", one, other), one - other)
            self.assertEqual(product("hours", one, other), one * other)
        for one, other in pairs("bits"):
            self.assertEqual(added("bits", one, other), one ^ other)
            self.assertEqual(less("bits", one, other), one ^ other)
            self.assertEqual(product("bits", one, other), bits_times(one, other))

    def test_ring_laws(self):
        for kind in KINDS:
            numbers = list(SMALL[kind])[::5]
            for one, other, third in itertools.product(numbers, repeat=3):
                left = product(kind, one, added(kind, other, third))
                self.assertEqual(left, added(kind, product(kind, one, other), product(kind, one, third)))
                self.assertEqual(less(kind, added(kind, one, other), other), one)

    def test_great(self):
        for one, other in great_pairs("hours"):
            self.assertEqual(product("hours", one, other), one * other)
            self.assertEqual(less("hours", one, other), one - other)
        for one, other in great_pairs("bits"):
            self.assertEqual(product("bits", one, other), bits_times(one, other))
            self.assertEqual(added("bits", one, other), one ^ other)


class Rests(unittest.TestCase):
    def check(self, kind, one, by):
        q, r = quotient(kind, one, by), rest(kind, one, by)
        self.assertEqual(sum_of(kind, times(kind, by, q), r), one)
        if kind == "hours":
            self.assertTrue(0 <= r < by)
        else:
            self.assertTrue(0 <= r and r.bit_length() < by.bit_length())

    def test_quotient_and_rest(self):
        for kind in KINDS:
            for one, by in pairs(kind):
                if by > 0:
                    self.check(kind, one, by)
            for one, by in great_pairs(kind):
                if by > 0:
                    self.check(kind, one, by)

    def test_just_one_pair(self):
        for one, by in itertools.product(range(32), range(1, 16)):
            fitting = [(q, r) for q in range(32) for r in range(16)
                       if r.bit_length() < by.bit_length() and bits_times(by, q) ^ r == one]
            self.assertEqual(fitting, [(quotient("bits", one, by), rest("bits", one, by))])

    def test_rest_by_nought(self):
        for number in (-7, 0, 7, 10 ** 30 - 1, 1 - 10 ** 30):
            self.assertEqual(rest("hours", number, 0), number)
        for number in (0, 7, 10 ** 30 - 1):
            self.assertEqual(rest("bits", number, 0), number)

    def test_words_far_longer_than_what_divides_them(self):
        rng = random.Random(8)
        for long in (900, 1003, 1100, 2048, 5000):
            for size in (1, 2, 3, 8, 40, 120, 600):
                by = rng.getrandbits(size) | 1 << size - 1
                for one in (rng.getrandbits(long) | 1 << long, 1 << long, bits_times(by, rng.getrandbits(long))):
                    self.assertEqual(rest("bits", one, by), bits_rest(one, by))
                    self.assertIs(is_multiple("bits", one, by), bits_rest(one, by) == 0)
                    self.assertEqual(divisor("bits", one, by), divisor("bits", by, bits_rest(one, by)))

    def test_long_hours(self):
        for one in (10 ** 400 + 7, -10 ** 500 + 3, 2 ** 5000, 13 ** 900):
            for by in (1, 2, 3, 13, 10 ** 29 + 1, 7 ** 200):
                self.assertEqual(rest("hours", one, by), one % by)
                self.assertIs(is_multiple("hours", one, by), one % by == 0)

    def test_is_multiple(self):
        for one, by in itertools.product(range(-30, 31), range(-9, 10)):
            self.assertIs(is_multiple("hours", one, by), any(by * n == one for n in range(-31, 32)))
        for one, by in itertools.product(range(32), range(16)):
            self.assertIs(is_multiple("bits", one, by), any(bits_times(by, n) == one for n in range(32)))
        self.assertIs(is_multiple("hours", 10 ** 29 * 7, -10 ** 29), True)
        self.assertIs(is_multiple("hours", 10 ** 29 * 7 + 1, 10 ** 29), False)
        self.assertIs(is_multiple("bits", bits_times(2 ** 39 + 5, 2 ** 50 + 9), 2 ** 39 + 5), True)
        self.assertIs(is_multiple("bits", bits_times(2 ** 39 + 5, 2 ** 50 + 9) ^ 1, 2 ** 39 + 5), False)


class Divisors(unittest.TestCase):
    def test_small_divisors(self):
        for kind, span in (("hours", range(-13, 14)), ("bits", range(16))):
            for one, other in itertools.product(span, repeat=2):
                count = divisor(kind, one, other)
                # What the products of two numbers with any others come to when added, tried.
                sums = {sum_of(kind, times(kind, one, x), times(kind, other, y)) for x in span for y in span}
                self.assertTrue(all(goes_into(kind, count, item) for item in sums))
                self.assertIn(count, sums)
                self.assertGreaterEqual(count, 0)

    def test_small_multiples(self):
        for kind, span in (("hours", range(-13, 14)), ("bits", range(16))):
            counts = range(1, 14 ** 2) if kind == "hours" else range(1, 256)
            for one, other in itertools.product(span, repeat=2):
                common = [n for n in counts if goes_into(kind, one, n) and goes_into(kind, other, n)]
                count = multiple(kind, one, other)
                self.assertEqual(count, min(common, default=0))
                self.assertTrue(all(goes_into(kind, count, item) for item in common))

    def test_noughts(self):
        for kind in KINDS:
            self.assertEqual([divisor(kind, 0, 0), divisor(kind, 9, 0), divisor(kind, 0, 9)], [0, 9, 9])
            self.assertEqual([multiple(kind, 0, 0), multiple(kind, 9, 0), multiple(kind, 0, 9)], [0, 0, 0])
            self.assertTrue(is_divisor_paper(kind, 0, 0, divisor_paper(kind, 0, 0)))
            self.assertTrue(is_divisor_paper(kind, 0, 0, (0, 5, 7, 9, 2)))
        self.assertEqual(divisor("hours", 0, -9), 9)

    def test_great(self):
        begun = time.time()
        for kind in KINDS:
            for one, other in great_pairs(kind):
                count = divisor(kind, one, other)
                self.assertEqual(count, gcd_of(kind, one, other))
                value = divisor_paper(kind, one, other)
                self.assertIsInstance(value, tuple)
                self.assertEqual(value[0], count)
                self.assertIs(is_divisor_paper(kind, one, other, value), True)
                upper = multiple(kind, one, other)
                self.assertGreaterEqual(upper, 0)
                self.assertEqual(times(kind, upper, count), abs(times(kind, one, other)))
        self.assertLess(time.time() - begun, 10)

    def test_they_distribute(self):
        rng = random.Random(3)
        for kind in KINDS:
            for _ in range(300):
                one, two, three = (rng.choice(SMALL[kind]) for _ in range(3))
                left = divisor(kind, one, multiple(kind, two, three))
                self.assertEqual(left, multiple(kind, divisor(kind, one, two), divisor(kind, one, three)))
                left = multiple(kind, one, divisor(kind, two, three))
                self.assertEqual(left, divisor(kind, multiple(kind, one, two), multiple(kind, one, three)))


class Papers(unittest.TestCase):
    def test_all_small_papers(self):
        for kind, span in (("hours", range(-2, 3)), ("bits", range(4))):
            for one, other in ((0, 0), (2, 0), (0, 1), (2, 1), (2, 2), (1, 1)):
                for value in itertools.product(span, repeat=5):
                    count, p, q, x, y = value
                    right = (count >= 0 and times(kind, count, p) == one and times(kind, count, q) == other
                             and sum_of(kind, times(kind, one, x), times(kind, other, y)) == count)
                    self.assertIs(is_divisor_paper(kind, one, other, value), right)
                    if right:
                        self.assertEqual(count, divisor(kind, one, other))

    def test_made_papers(self):
        for kind in KINDS:
            for one, other in pairs(kind):
                value = divisor_paper(kind, one, other)
                self.assertTrue(is_divisor_paper(kind, one, other, value))
                for at in range(5):
                    bent = value[:at] + (value[at] + 1,) + value[at + 1:]
                    count, p, q, x, y = bent
                    right = (times(kind, count, p) == one and times(kind, count, q) == other
                             and sum_of(kind, times(kind, one, x), times(kind, other, y)) == count)
                    self.assertIs(is_divisor_paper(kind, one, other, bent), right)

    def test_no_papers(self):
        wrong = THINGS + [[6, 2, 3, -1, 1], (6, 2, 3, -1), (6, 2, 3, -1, 1, 0), (-6, -2, -3, 1, -1),
                          (6, 2, 3, -1, True), (6, 2, 3, "-1", 1), (6, 2, 3, None, 1), (6, [2], 3, -1, 1),
                          ((6, 2, 3, -1, 1),), (3, 4, 6, -1, 1), 6]
        for value in wrong:
            self.assertIs(is_divisor_paper("hours", 12, 18, value), False, value)
        self.assertIs(is_divisor_paper("hours", 12, 18, (6, 2, 3, -1, 1)), True)
        self.assertIs(is_divisor_paper("bits", 1, 0, (True, 1, 0, 1, 0)), False)
        self.assertIs(is_divisor_paper("bits", 3, 3, (3, 1, 1, -1, 0)), False)
        self.assertIs(is_divisor_paper("hours", 3, 3, (-3, -1, -1, -1, 0)), False)


class Refused(unittest.TestCase):
    def test_two_numbers(self):
        for kind in KINDS:
            wrong = [(InvalidNumber, WRONG_NUMBERS[kind])]
            for function in TWO:
                check_refusals(self, function, [("kind", kind, [(InvalidKind, WRONG_KINDS)]), ("one", 6, wrong),
                                                ("other", 4, wrong)])
            check_refusals(self, is_multiple, [("kind", kind, [(InvalidKind, WRONG_KINDS)]), ("one", 6, wrong),
                                               ("by", 4, wrong)])
            check_refusals(self, is_divisor_paper, [("kind", kind, [(InvalidKind, WRONG_KINDS)]), ("one", 6, wrong),
                                                    ("other", 4, wrong), ("value", None, [])])

    def test_by(self):
        for kind in KINDS:
            kinds = ("kind", kind, [(InvalidKind, WRONG_KINDS)])
            one = ("one", 6, [(InvalidNumber, WRONG_NUMBERS[kind])])
            check_refusals(self, quotient, [kinds, one, ("by", 4, [(InvalidNumber, NO_COUNTS + [0])])])
            check_refusals(self, rest, [kinds, one, ("by", 4, [(InvalidNumber, NO_COUNTS)])])
            check_refusals(self, rest, [kinds, one, ("by", 0, [(InvalidNumber, NO_COUNTS)])])

    def test_numbers_below_nought_stand_for_hours(self):
        for number in (-1, -10 ** 30 + 1):
            for function in TWO + [is_multiple]:
                function("hours", number, number)
        self.assertEqual(NO_NUMBERS, WRONG_NUMBERS["hours"])

    def test_equal_calls(self):
        for kind in KINDS:
            for function in TWO + [quotient, rest, is_multiple]:
                check_fresh(self, function, kind, 12, 18)


if __name__ == "__main__":
    unittest.main()
