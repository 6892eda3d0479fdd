"""[66] to [69]: strikes."""

import itertools
import math
import random
import time
import unittest

from hourrings.errors import InvalidNumber, InvalidThings
from hourrings.strikes import (apart, fewest_put_off, greatest_lots, how_many_strike, how_often, next_together, shifts,
                               strikes_from, striking, together)
from tests.trying import NO_COUNTS, NO_NUMBERS, THINGS, check_fresh, check_refusals, lots

THREE = [(3, 10), (1, 12), (7, 15)]
NO_THINGS = [None, True, 0, "", (), (3, 10), ((3, 10),), {}, {(3, 10): 1}, "ab", [3, 10], [[3, 10]], [(3,)], [()],
             [(3, 10, 1)], [None], [(3, 0)], [(3, -10)], [(3, True)], [(True, 10)], [(False, 10)], [(3, None)],
             [("3", 10)], [(3, "10")], [((3, 10),)], [[(3, 10)]], [(3, 10), (1, 0)], [(3, 10), None],
             [(3, [10])], [([3], 10)], InvalidThings([(3, 10)]), [InvalidThings((3, 10))], [(3, 10), (1, False)]]
OF_THINGS = [("things", THREE, [(InvalidThings, NO_THINGS)])]
HOUR = [(InvalidNumber, NO_NUMBERS)]


def drawn_things(seed, many, most=5):
    rng = random.Random(seed)
    for _ in range(many):
        everies = rng.choice([[1, 2, 3, 6], [2, 4, 8], [4, 6, 12], [2, 3, 5], [6, 10, 15], [3, 6, 9]])
        yield rng, [(rng.randint(-20, 20), rng.choice(everies)) for _ in range(rng.randint(0, most))]


def strikes_at(things, hour):
    return [at for at, (begin, every) in enumerate(things) if (hour - begin) % every == 0]


def round_of(things):
    return math.lcm(1, *[every for _, every in things])


def struck(things):
    """For each hour of a whole round, which things strike."""
    return [strikes_at(things, hour) for hour in range(round_of(things))]


class Together(unittest.TestCase):
    def test_hour_by_hour(self):
        seen = []
        for rng, things in drawn_things(241, 150):
            hours = struck(things)
            whole = list(range(len(things)))
            every = round_of(things)
            self.assertEqual(every, len(hours))
            found = [hour for hour, numbers in enumerate(hours) if numbers == whole]
            self.assertLessEqual(len(found), 1)
            self.assertEqual(check_fresh(self, together, things), (found[0], every) if found else None)
            apart_two = [two for two in itertools.combinations(whole, 2)
                         if not any(set(two) <= set(numbers) for numbers in hours)]
            self.assertEqual(apart(things), apart_two[0] if apart_two else None)
            self.assertIs(apart(things) is None, found != [])
            seen.append(found != [])
            for hour in (0, -1, 1, rng.randint(-100, 100), every, -every, *found):
                self.assertEqual(check_fresh(self, striking, things, hour), strikes_at(things, hour))
                later = [hour + more for more in range(every) if strikes_at(things, hour + more) == whole]
                self.assertEqual(next_together(things, hour), later[0] if later else None)
        self.assertGreater(min(seen.count(True), seen.count(False)), 30)

    def test_edges(self):
        self.assertEqual([together([]), apart([]), striking([], 5)], [(0, 1), None, []])
        self.assertEqual([next_together([], -5), next_together([(-7, 3)], -8), next_together([(-7, 3)], -7)], [-5, -7, -7])
        self.assertEqual([together([(-7, 3)]), together([(-7, 1)]), together([(13, 12)] * 3)], [(2, 3), (0, 1), (1, 12)])
        self.assertEqual([apart([(0, 2), (1, 2), (0, 2)]), apart([(0, 2), (0, 3), (1, 2)])], [(0, 1), (0, 2)])


class HowOften(unittest.TestCase):
    def test_hour_by_hour(self):
        for rng, things in drawn_things(242, 150):
            for _ in range(4):
                low = rng.randint(-60, 60)
                high = low + rng.randint(-5, 70)
                hours = [len(strikes_at(things, hour)) for hour in range(low, high)]
                self.assertEqual(how_often(things, low, high), hours.count(len(things)))
                self.assertEqual(check_fresh(self, how_many_strike, things, low, high),
                                 [hours.count(many) for many in range(len(things) + 1)])

    def test_no_hours(self):
        for things in ([], THREE, [(0, 1)]):
            for low, high in ((5, 5), (5, 4), (0, -10 ** 30), (10 ** 30, -10 ** 30), (-3, -3)):
                self.assertEqual(how_often(things, low, high), 0)
                self.assertEqual(how_many_strike(things, low, high), [0] * (len(things) + 1))
        self.assertEqual([how_often([], -2, 5), how_many_strike([], -2, 5)], [7, [7]])

    def test_far(self):
        """Numbers of 30 figures are told without going through hours."""
        rng = random.Random(243)
        begun = time.time()
        for _, things in drawn_things(244, 30, 10):
            every = round_of(things)
            rounds = rng.randrange(10 ** 25)
            low = rng.randrange(-10 ** 29, 10 ** 29)
            once = how_many_strike(things, low, low + every)
            self.assertEqual(how_many_strike(things, low, low + every * rounds), [many * rounds for many in once])
            self.assertEqual(how_often(things, low, low + every * rounds), once[-1] * rounds)
            self.assertEqual(sum(once), every)
        things = [(rng.randrange(-10 ** 30, 10 ** 30), rng.randrange(10 ** 29, 10 ** 30)) for _ in range(10)]
        many = how_many_strike(things, -10 ** 30, 10 ** 30)
        self.assertEqual(sum(many), 2 * 10 ** 30)
        self.assertEqual(sum(at * told for at, told in enumerate(many)),
                         sum(how_often([thing], -10 ** 30, 10 ** 30) for thing in things))
        same = [(5, rng.randrange(10 ** 29, 10 ** 30)) for _ in range(10)]
        self.assertEqual(how_many_strike(same, 0, 10)[10], 1)
        self.assertEqual(together(same)[0], 5)
        self.assertLess(time.time() - begun, 10)


class Lots(unittest.TestCase):
    def test_greatest(self):
        for _, things in drawn_things(245, 120, 7):
            hours = struck(things)
            found = [lot for lot in lots(len(things)) if any(set(lot) <= set(numbers) for numbers in hours)]
            greatest = sorted(lot for lot in found if not any(set(lot) < set(other) for other in found))
            self.assertEqual(check_fresh(self, greatest_lots, things), greatest)
            off = sorted((len(things) - len(lot), [at for at in range(len(things)) if at not in lot]) for lot in found)
            self.assertEqual(check_fresh(self, fewest_put_off, things), off[0][1])

    def test_edges(self):
        self.assertEqual([greatest_lots([]), fewest_put_off([])], [[[]], []])
        self.assertEqual([greatest_lots([(4, 5)]), fewest_put_off([(4, 5)])], [[[0]], []])
        self.assertEqual(greatest_lots([(0, 2), (1, 2), (0, 1)]), [[0, 2], [1, 2]])
        self.assertEqual(fewest_put_off([(0, 2), (1, 2), (0, 1)]), [0])

    def test_great(self):
        begun = time.time()
        # Threes of which only one can be taken each: the most lots that there can be.
        primes = (10 ** 28 + 331, 10 ** 29 + 319, 10 ** 28 + 337, 5)
        things = [(at, prime) for prime in primes for at in range(3)]
        greatest = greatest_lots(things)
        self.assertEqual(greatest, [[at + 3 * number for number, at in enumerate(picks)]
                                    for picks in itertools.product(range(3), repeat=4)])
        self.assertEqual(fewest_put_off(things), [0, 1, 3, 4, 6, 7, 9, 10])
        self.assertLess(time.time() - begun, 5)


class StrikesFrom(unittest.TestCase):
    def test_hour_by_hour(self):
        for rng, things in drawn_things(246, 120):
            hour = rng.randint(-50, 50)
            many = rng.randint(0, 12)
            found = check_fresh(self, strikes_from, things, hour, many)
            self.assertEqual(len(found), many if things else 0)
            right = [(at, strikes_at(things, at)) for at in range(hour, hour + 400) if strikes_at(things, at)]
            self.assertEqual(found, right[:many])

    def test_many(self):
        begun = time.time()
        for every in (1, 10 ** 30):
            things = [(10 ** 29 + at, every + at) for at in range(12)]
            found = strikes_from(things, -10 ** 29, 1000)
            self.assertEqual(len(found), 1000)
            self.assertEqual([numbers for _, numbers in found], [strikes_at(things, hour) for hour, _ in found])
        self.assertEqual([strikes_from([], 5, 1000), strikes_from(THREE, 5, 0)], [[], []])
        self.assertLess(time.time() - begun, 5)


class PutOff(unittest.TestCase):
    def test_shifts(self):
        seen = []
        for _, things in drawn_things(247, 100):
            for number in range(len(things)):
                answer = check_fresh(self, shifts, things, number)
                hour, every = things[number]
                good = [shift for shift in range(-40, 40)
                        if together(things[:number] + [(hour + shift, every)] + things[number + 1:]) is not None]
                self.assertIs(answer is None, good == [])
                seen.append(answer is None)
                if answer is not None:
                    self.assertTrue(0 <= answer[0] < answer[1])
                    self.assertEqual(good, [shift for shift in range(-40, 40) if (shift - answer[0]) % answer[1] == 0])
        self.assertGreater(min(seen.count(True), seen.count(False)), 40)
        self.assertEqual([shifts([(5, 7)], 0), shifts([(0, 2), (1, 2)], 0), shifts([(0, 2), (1, 2), (5, 9)], 2)],
                         [(0, 1), (1, 2), None])
        far = [(10 ** 30 - 1, 10 ** 29 * 6), (-10 ** 30, 10 ** 29 * 4)]
        self.assertEqual(shifts(far, 0), (1, 2 * 10 ** 29))


class Refused(unittest.TestCase):
    def test_refused(self):
        for function in (together, apart, greatest_lots, fewest_put_off):
            check_refusals(self, function, OF_THINGS)
        for function in (striking, next_together):
            check_refusals(self, function, OF_THINGS + [("hour", -13, HOUR)])
        for function in (how_often, how_many_strike):
            check_refusals(self, function, OF_THINGS + [("low", -5, HOUR), ("high", 60, HOUR)])
        counts = [(InvalidNumber, NO_COUNTS)]
        check_refusals(self, strikes_from, OF_THINGS + [("hour", -5, HOUR), ("many", 3, counts)])
        check_refusals(self, shifts, OF_THINGS + [("number", 2, [(InvalidNumber, NO_COUNTS + [3, 10 ** 30])])])
        for value in THINGS:
            if value != []:
                with self.assertRaises(InvalidThings):
                    together(value)


if __name__ == "__main__":
    unittest.main()
