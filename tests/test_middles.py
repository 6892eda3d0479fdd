"""[50] to [53]: between two books, and along a row of books."""

import copy
import itertools
import random
import time
import unittest

from hourrings.closed import closed, follows
from hourrings.errors import AtOdds, HourError, InvalidBook, InvalidRing, Unlike
from hourrings.forgetting import shared_unknowns, told_of
from hourrings.middles import (can_be_kept_along, carried, is_carrying, is_least_middle, is_middle, least_middle,
                               ring_middle, strongest_middle)
from hourrings.plain import plain_odds
from hourrings.papers import ring_of_odds
from hourrings.rings import broken_rings, can_be_kept, way_line
from tests.test_forgetting import two_books
from tests.test_rings import NO_LISTS, NO_STEPS
from tests.test_rows import rests_of
from tests.trying import (BOOKS, KINDS, ODD, THINGS, WRONG_BOOKS, check_fresh, check_refusals, check_refused,
                          difference, drawn_line, forms, goes_into, great_book, great_names, keeps_line, lcm_of,
                          line_of, names_of, sum_of, told_book)

LEFT, RIGHT = ("hours", [("a", "p", 1, 12), ("p", "b", 1, 8)]), ("hours", [("a", "q", 1, 6), ("q", "b", 2, 4)])
# Parameters of which other functions tell that they are no two books of a kind that can be kept.
PAIR = {kind: [("one", (kind, [("a", "b", 1, 2)]), BOOKS),
               ("other", (kind, [("b", "a", 0, 2), ("b", "c", 0, 1)]), BOOKS)] for kind in KINDS}


def is_tried_middle(one, other, value):
    """By the words of the point, for a value that is a book."""
    names = shared_unknowns(one, other)
    return (value[0] == one[0] and set(names_of(value[1])) <= set(names) and
            all(follows(one, line) for line in value[1]) and not can_be_kept((one[0], other[1] + value[1])))


def drawn_values(rng, one, other):
    """Books that may be middles: drawn ones, and such as follow from the one book."""
    kind = one[0]
    lines = [("a", "b", 0, 2)]
    for told in closed(one):
        lines.append(told)
        for by in (2, 3, 4):
            if goes_into(kind, by, told[3]):
                lines.append(line_of(kind, told[1], told[0], difference(kind, 0, told[2]), by))
    for _ in range(8):
        yield (kind, rng.sample(lines, min(len(lines), rng.randint(0, 3))))
        yield (kind, [drawn_line(rng, kind, ["a", "b", "c"], [0, 1, 2, 3, 4]) for _ in range(rng.randint(0, 2))])
    yield (kind, one[1])
    yield (kind, other[1])


class Middles(unittest.TestCase):
    def test_judged(self):
        seen = []
        for rng, one, other in two_books(141, 200):
            for value in drawn_values(rng, one, other):
                right = is_tried_middle(one, other, value)
                self.assertIs(is_middle(one, other, value), right, (one, other, value))
                seen.append(right)
                least = right and not any(is_tried_middle(one, other, (value[0], value[1][:at] + value[1][at + 1:]))
                                          for at in range(len(value[1])))
                self.assertIs(is_least_middle(one, other, value), least)
                seen.append("least" if least else None)
        self.assertGreater(min(seen.count(item) for item in (True, False, "least")), 25)

    def test_strongest(self):
        seen = []
        for rng, one, other in two_books(142, 200):
            kind = one[0]
            odd = not can_be_kept((kind, one[1] + other[1]))
            book = check_fresh(self, strongest_middle, one, other)
            seen.append(odd)
            self.assertIs(book is not None, odd)
            if odd:
                self.assertEqual(book, told_of(one, shared_unknowns(one, other)))
                self.assertIs(is_middle(one, other, book), True)
            for value in drawn_values(rng, one, other):
                if is_middle(one, other, value):
                    self.assertIs(odd, True)
                    self.assertIs(all(follows(book, line) for line in value[1]), True)
        self.assertGreater(min(seen.count(True), seen.count(False)), 40)

    def test_all_numbers_of_a_period(self):
        """Both are at odds exactly if no numbers of the shared unknowns go on in both; a middle tells them apart."""
        found = 0
        for _, one, other in two_books(143, 120, shared="ab"):
            kind = one[0]
            both = one[1] + other[1]
            period = 1
            for line in both:
                period = lcm_of(kind, period, line[3])
            if period == 0 or len(rests_of(kind, period)) > 12:
                continue
            names = names_of(both)
            keeping = [row for row in itertools.product(rests_of(kind, period), repeat=len(names))
                       if all(keeps_line(kind, line, dict(zip(names, row))) for line in both)]
            middle = strongest_middle(one, other)
            self.assertIs(middle is None, keeping != [])
            if middle is not None:
                found += 1
                shared = shared_unknowns(one, other)
                for lines, right in ((one[1], True), (other[1], False)):
                    told = names_of(lines)
                    for row in itertools.product(rests_of(kind, period), repeat=len(told)):
                        row = dict(zip(told, row))
                        if set(shared) <= set(row) and all(keeps_line(kind, line, row) for line in lines):
                            self.assertIs(all(keeps_line(kind, line, row) for line in middle[1]), right)
        self.assertGreater(found, 15)

    def test_least(self):
        found = []
        for _, one, other in two_books(144, 400, shared="abcd"):
            kind = one[0]
            book = check_fresh(self, least_middle, one, other)
            self.assertIs(book is None, can_be_kept((kind, one[1] + other[1])))
            if book is None:
                continue
            self.assertIs(is_least_middle(one, other, book), True)
            self.assertEqual(book[1], sorted(book[1]))
            self.assertTrue(set(book[1]) <= set(closed(one)))
            shared = shared_unknowns(one, other)
            self.assertLess(len(book[1]), len(shared))
            found.append(len(book[1]))
            # They stand in one broken ring with closed lines of the other book.
            whole = (kind, book[1] + closed(other))
            rings = [{number for number, _ in ring} for ring in broken_rings(whole)]
            self.assertTrue(any(set(range(len(book[1]))) <= ring for ring in rings), (one, other, book))
        self.assertGreater(found.count(1), 20)
        self.assertGreater(len(found) - found.count(1), 0)

    def test_two_lines_are_needed(self):
        for kind in KINDS:
            one = (kind, [("a", "b", 1, 2), ("c", "d", 0, 2)])
            other = (kind, [("b", "c", 0, 2), ("d", "a", 0, 2)])
            for function in (strongest_middle, least_middle):
                self.assertEqual(function(one, other), one)
            self.assertIs(is_least_middle(one, other, one), True)
            self.assertIs(is_least_middle(one, other, (kind, one[1] + one[1][:1])), False)
            self.assertIs(is_middle(one, other, (kind, one[1] + one[1][:1])), True)
            self.assertIs(is_middle(one, other, (kind, one[1][:1])), False)
            self.assertEqual(least_middle(other, one), (kind, [("a", "d", 0, 2), ("b", "c", 0, 2)]))

    def test_wrong_forms(self):
        right = ("hours", [("a", "b", 2, 4)])
        self.assertIs(is_middle(LEFT, RIGHT, right), True)
        for value in THINGS + WRONG_BOOKS + [right[1], list(right), ("bits", [("a", "b", 0, 2)]), ("hours", []),
                                             ("hours", [("a", "p", 1, 12)]), ("hours", right[1] + [("a", "p", 1, 12)]),
                                             ("hours", right[1] + [("a", "x", 0, 1)]), LEFT, RIGHT,
                                             ("hours", [("a", "b", 1, 4)]), ("hours", [("a", "b", 2, 8)])]:
            self.assertIs(is_middle(LEFT, RIGHT, value), False, value)
            self.assertIs(is_least_middle(LEFT, RIGHT, value), False, value)
        self.assertIs(is_middle(LEFT, RIGHT, ("hours", right[1] + [("b", "a", 0, 1)])), True)
        self.assertIs(is_least_middle(LEFT, RIGHT, ("hours", right[1] + [("b", "a", 0, 1)])), False)
        self.assertIs(is_least_middle(LEFT, RIGHT, ("hours", [("b", "a", 0, 2)])), True)

    def test_edges(self):
        for kind in KINDS:
            empty, book = (kind, []), (kind, [("a", "b", 1, 2)])
            far = (kind, [("x", "y", 0, 2)])
            for one, other in ((empty, empty), (empty, book), (book, empty), (book, book), (book, far)):
                self.assertEqual([strongest_middle(one, other), least_middle(one, other)], [None, None])
                for value in (empty, book, one, other, None):
                    self.assertIs(is_middle(one, other, value), False)
                    self.assertIs(is_least_middle(one, other, value), False)

    def test_great_books(self):
        rng = random.Random(145)
        begun = time.time()
        for kind in KINDS:
            for shared in (0, 6, 60):
                lines = great_book(rng, kind, shared)[1]
                one = (kind, lines[:20])
                two, other, ahead, by = rng.choice(closed(one))
                off = line_of(kind, two, other, sum_of(kind, ahead, 1), by)
                for book in ((kind, lines[20:]), (kind, [off]), (kind, lines[20:26] + [off])):
                    if not can_be_kept(book):
                        continue
                    middle = least_middle(one, book)
                    self.assertIs(middle is None, can_be_kept((kind, one[1] + book[1])))
                    self.assertIs(is_least_middle(one, book, middle), middle is not None)
                    self.assertIs(is_middle(one, book, strongest_middle(one, book)), middle is not None)
        self.assertLess(time.time() - begun, 20)


def check_pair_refused(test, function, others):
    """What is told of two books: the wrong one, unlike kinds, and the one that is at odds, ahead of all others."""
    for kind in KINDS:
        other_kind = "bits" if kind == "hours" else "hours"
        parameters = [list(item) for item in PAIR[kind]]
        of_other = [(other_kind, [("a", "b", 1, 2)]), ODD[other_kind]]
        parameters[1][2] = BOOKS + [(Unlike, of_other)]
        check_refusals(test, function, parameters + [(name, value, []) for name, value in others])
        names = ["one", "other"] + [name for name, _ in others]
        odd, good, more = (kind, list(ODD[kind][1])), parameters[0][1], [None for _ in others]
        for one, other, first in ((odd, good, odd), (good, odd, odd), (odd, ODD[kind], odd)):
            check_refused(test, function, AtOdds, first, names, [one, other] + more)
        for wrong in WRONG_BOOKS:
            check_refused(test, function, InvalidBook, wrong, names, [odd, wrong] + more)
        check_refused(test, function, Unlike, of_other[0], names, [odd, of_other[0]] + more)


class TwoBooksRefused(unittest.TestCase):
    def test_refused(self):
        for function, others in ((is_middle, ["value"]), (strongest_middle, []), (least_middle, []),
                                 (is_least_middle, ["value"])):
            check_pair_refused(self, function, [(name, None) for name in others])


def tried_stretches(lines, many, ring):
    """The lists of steps, none of them within another one, that go on along the ring in lines below a number."""
    found = []
    for begin in range(len(ring)):
        turned = ring[begin:] + ring[:begin]
        if turned[-1][0] >= many > turned[0][0]:
            stop = next(at for at, step in enumerate(turned) if step[0] >= many)
            found.append(turned[:stop])
    return found


class OffARing(unittest.TestCase):
    def check(self, one, other, ring):
        kind = one[0]
        both = (kind, one[1] + other[1])
        expected = []
        for stretch in tried_stretches(both[1], len(one[1]), ring):
            begin, end, ahead, by = way_line(both, stretch)
            expected.append((begin, end, ahead, by) if begin < end
                            else line_of(kind, end, begin, difference(kind, 0, ahead), by))
        book = check_fresh(self, ring_middle, one, other, ring)
        self.assertEqual(book, (kind, sorted(expected)))
        self.assertIs(is_middle(one, other, book), True)
        for form in forms(ring):
            self.assertEqual(ring_middle(one, other, form), book)
        return len(book[1])

    def test_all_broken_rings(self):
        found = []
        for _, one, other in two_books(146, 150):
            both = (one[0], one[1] + other[1])
            for ring in broken_rings(both):
                found.append(self.check(one, other, ring))
        self.assertGreater(len(found), 100)

    def test_several_stretches(self):
        rng = random.Random(147)
        for kind in KINDS:
            names = great_names(12)
            for _ in range(30):
                lines = [line_of(kind, *rng.sample([names[at], names[(at + 1) % 12]], 2), rng.randrange(60),
                                 rng.choice([6, 12, 60])) for at in range(12)]
                lots_of = [[], []]
                for line in lines:
                    lots_of[rng.randrange(2)].append(line)
                one, other = (kind, lots_of[0]), (kind, lots_of[1])
                for ring in broken_rings((kind, lots_of[0] + lots_of[1])):
                    if lots_of[0] and lots_of[1]:
                        self.check(one, other, ring)

    def test_refused(self):
        ring = [(1, 1), (3, -1), (2, -1), (0, 1)]
        wrong = NO_LISTS + [ring[:-1] + [step] for step in NO_STEPS if step not in ring] + [
            ring[:-1], ring[:2], [(0, 1), (1, 1)], ring + ring, [(0, 1), (0, -1)], tuple(ring),
            [list(step) for step in ring]]
        good = ("hours", [("a", "q", 1, 6), ("q", "b", 1, 4)])
        check_refusals(self, ring_middle, [("one", LEFT, BOOKS), ("other", RIGHT, BOOKS),
                                           ("ring", ring, [(InvalidRing, wrong)])])
        # A ring that is not broken, one of a book of its own, and one behind which a book is at odds.
        check_refused(self, ring_middle, InvalidRing, ring, ["one", "other", "ring"], [LEFT, good, ring])
        for kind in KINDS:
            book, odd = (kind, [("a", "b", 1, 2), ("a", "b", 1, 4)]), (kind, [("a", "b", 0, 2)])
            pair = [(0, -1), (1, 1)]
            check_refused(self, ring_middle, InvalidRing, pair, ["one", "other", "ring"], [book, odd, pair])
            for one, other in ((book, odd), (odd, book)):
                self.assertEqual(ring_middle(one, other, [(0, 1), (2, -1)]), (kind, one[1][:1]))
            for one, other, first in ((ODD[kind], odd, ODD[kind]), (odd, ODD[kind], ODD[kind])):
                for value in (pair, None, [(0, 1), (2, -1), (1, 1)]):
                    check_refused(self, ring_middle, AtOdds, first, ["one", "other", "ring"], [one, other, value])
            for wrong in WRONG_BOOKS:
                check_refused(self, ring_middle, InvalidBook, wrong, ["one", "other", "ring"], [wrong, None, None])
                check_refused(self, ring_middle, InvalidBook, wrong, ["one", "other", "ring"], [ODD[kind], wrong, None])
            other_kind = ("bits" if kind == "hours" else "hours", [])
            check_refused(self, ring_middle, Unlike, other_kind, ["one", "other", "ring"],
                          [ODD[kind], other_kind, None])

    def test_great_books(self):
        rng = random.Random(148)
        begun = time.time()
        for kind in KINDS:
            for shared in (6, 60):
                lines = great_book(rng, kind, shared)[1]
                two, three, ahead, by = rng.choice(closed((kind, lines[:20])))
                one, other = (kind, lines[:20]), (kind, [line_of(kind, two, three, sum_of(kind, ahead, 1), by)])
                both = (kind, one[1] + other[1])
                ring = ring_of_odds(both, plain_odds(both))
                self.assertEqual(len(ring_middle(one, other, ring)[1]), 1)
                self.check(one, other, ring)
        self.assertLess(time.time() - begun, 10)


def rows_of_books(seed, many, kept=False):
    """Rows of two to five drawn books of a kind."""
    rng = random.Random(seed)
    for kind in KINDS:
        for _ in range(many):
            books = []
            told = told_book(rng, kind, ["a", "b", "c", "d"], 14)[1]
            for _ in range(rng.randint(2, 5)):
                lines = rng.sample(told, min(len(told), rng.randint(0, 4)))
                if not kept and rng.random() < 0.3:
                    lines = lines + [drawn_line(rng, kind, ["a", "b", "c", "d"], [2, 4, 1])]
                books.append((kind, lines))
            yield rng, books


def beginnings(books):
    """All beginnings of a row of books, as one book each, but for the whole row."""
    return [(books[0][0], [line for book in books[:many] for line in book[1]]) for many in range(1, len(books))]


def going_on(books, many):
    behind = names_of([line for book in books[many:] for line in book[1]])
    return [name for name in names_of([line for book in books[:many] for line in book[1]]) if name in behind]


def is_tried_carrying(books, value):
    kind = books[0][0]
    if len(value) != len(books) - 1:
        return False
    ahead = []
    for at, book in enumerate(value):
        if book[0] != kind or not set(names_of(book[1])) <= set(going_on(books, at + 1)):
            return False
        if not all(follows((kind, ahead + books[at][1]), line) for line in book[1]):
            return False
        ahead = book[1]
    return True


class AlongARow(unittest.TestCase):
    def test_carried(self):
        seen = []
        for _, books in rows_of_books(149, 200):
            kind = books[0][0]
            odd = [book for book in beginnings(books) if not can_be_kept(book)]
            whole = (kind, [line for book in books for line in book[1]])
            self.assertIs(check_fresh(self, can_be_kept_along, books), can_be_kept(whole))
            seen.append(bool(odd))
            if odd:
                for function, more in ((carried, []), (is_carrying, [None])):
                    with self.assertRaises(AtOdds) as caught:
                        function(books, *more)
                    self.assertEqual(caught.exception.value, odd[0])
                    self.assertIsInstance(caught.exception.value, tuple)
                continue
            expected = [told_of(book, going_on(books, at + 1)) for at, book in enumerate(beginnings(books))]
            self.assertEqual(check_fresh(self, carried, books), expected, books)
            self.assertIs(check_fresh(self, is_carrying, books, expected), True)
            last = (kind, expected[-1][1] + books[-1][1])
            self.assertIs(can_be_kept(last), can_be_kept(whole))
        self.assertGreater(min(seen.count(True), seen.count(False)), 25)

    def test_judged(self):
        seen = []
        for rng, books in rows_of_books(150, 120):
            if not all(can_be_kept(book) for book in beginnings(books)):
                continue
            told = carried(books)
            for _ in range(6):
                value = [(kind, rng.sample(lines, rng.randint(0, len(lines)))) for kind, lines in told]
                at = rng.randrange(len(value))
                kind = value[at][0]
                if rng.random() < 0.5:
                    line = drawn_line(rng, kind, ["a", "b", "c", "d"], [1, 2, 4, 0])
                    value[at] = (kind, value[at][1] + [line])
                if rng.random() < 0.2:
                    value = rng.choice([value[1:], value + value[:1], value[::-1]])
                right = is_tried_carrying(books, value)
                self.assertIs(is_carrying(books, value), right, (books, value))
                seen.append(right)
                if right:
                    # If the last one is at odds with the last book, all books are at odds together.
                    last = (kind, value[-1][1] + books[-1][1])
                    self.assertFalse(can_be_kept_along(books) and not can_be_kept(last))
        self.assertGreater(min(seen.count(True), seen.count(False)), 60)

    def test_each_hangs_on_the_one_ahead(self):
        for _, books in rows_of_books(151, 60, kept=True):
            kind = books[0][0]
            told = carried(books)
            for at in range(1, len(told)):
                step = (kind, told[at - 1][1] + books[at][1])
                self.assertEqual(told[at], told_of(step, going_on(books, at + 1)))

    def test_wrong_forms(self):
        books = [LEFT, RIGHT, LEFT]
        right = carried(books[:2])
        self.assertEqual(right, [("hours", [("a", "b", 2, 4)])])
        wrong = THINGS + WRONG_BOOKS[:8] + [right[0], tuple(right), [list(right[0])], right + right, [LEFT], [RIGHT],
                                            [("bits", [])], [("bits", [("a", "b", 0, 2)])], [None],
                                            [("hours", [("a", "x", 0, 1)])], [("hours", [("a", "p", 1, 12)])],
                                            [("hours", [("a", "b", 1, 4)])], [("hours", ())], [("hours", [None])]]
        for value in [value for value in wrong if value != []]:
            self.assertIs(is_carrying(books[:2], value), False, value)
        self.assertIs(is_carrying(books[:2], []), False)
        for value in (right, [("hours", [])], [("hours", [("b", "a", 0, 2), ("a", "b", 0, 1)])]):
            self.assertIs(is_carrying(books[:2], value), True)

    def test_edges(self):
        for kind in KINDS:
            empty, book, odd = (kind, []), (kind, [("b", "a", 1, 2)]), (kind, [("a", "b", 0, 2)])
            self.assertEqual(carried([empty, empty]), [empty])
            self.assertEqual(carried([book, empty, book]), [(kind, [("a", "b", 1, 2)])] * 2)
            self.assertEqual(carried([book, book, empty]), [(kind, [("a", "b", 1, 2)]), empty])
            self.assertEqual(carried([book, odd]), [(kind, [("a", "b", 1, 2)])])
            self.assertEqual([can_be_kept_along(row) for row in ([book, odd], [book, odd, empty], [ODD[kind], empty],
                                                                 [empty, ODD[kind]], [book, empty, empty])],
                             [False, False, False, False, True])
            for row, first in (([book, odd, empty], (kind, book[1] + odd[1])), ([ODD[kind], odd], ODD[kind]),
                               ([book, empty, odd, ODD[kind], book], (kind, book[1] + odd[1]))):
                with self.assertRaises(AtOdds) as caught:
                    carried(row)
                self.assertEqual(caught.exception.value, first)

    def test_refused(self):
        for kind in KINDS:
            book, other_kind = (kind, [("a", "b", 1, 2)]), ("bits" if kind == "hours" else "hours", [])
            wrong = THINGS + ["hours", book, book[1], (book, book), [book], {0: book, 1: book}, [book, None],
                              [ODD[kind], None], [book, other_kind, None]]
            wrong += [[book, item] for item in WRONG_BOOKS] + [[item, book, book] for item in WRONG_BOOKS]
            wrong = [value for value in wrong if value != []] + [[]]
            check_refusals(self, carried, [("books", [book, book], [(InvalidBook, wrong)])])
            check_refusals(self, can_be_kept_along, [("books", [book, book], [(InvalidBook, wrong)])])
            check_refusals(self, is_carrying, [("books", [book, book], [(InvalidBook, wrong)]), ("value", None, [])])
            for row, first in (([book, other_kind], other_kind), ([other_kind, book, other_kind], book),
                               ([ODD[kind], ODD[kind], other_kind, book], other_kind)):
                for function, more in ((carried, []), (can_be_kept_along, []), (is_carrying, [None])):
                    ahead = copy.deepcopy(row)
                    with self.assertRaises(HourError) as caught:
                        function(row, *more)
                    self.assertIs(type(caught.exception), Unlike)
                    self.assertIs(caught.exception.value, first)
                    self.assertEqual(row, ahead)

    def test_six_great_books(self):
        rng = random.Random(152)
        begun = time.time()
        for kind in KINDS:
            for shared in (0, 1, 60):
                lines = great_book(rng, kind, shared)[1]
                books = [(kind, rng.sample(lines, 20)) for _ in range(6)]
                told = carried(books)
                self.assertIs(is_carrying(books, told), True)
                self.assertIs(can_be_kept_along(books), True)
                last = (kind, [line_of(kind, *lines[3][:2], sum_of(kind, lines[3][2], 1), lines[3][3])])
                whole = (kind, [line for book in books[:5] + [last] for line in book[1]])
                self.assertIs(can_be_kept_along(books[:5] + [last]), can_be_kept(whole))
        self.assertLess(time.time() - begun, 10)

    def test_six_books_of_unlike_names(self):
        """Seventy-two unknowns in all, half of which go on from the first books to the last ones."""
        rng = random.Random(153)
        begun = time.time()
        for kind in KINDS:
            names = [[f"{letter}{at}" for at in range(12)] for letter in "abcdef"]
            for at in range(3, 6):
                names[at] = [names[far][place] for far in range(3) for place in range(at - 3, 12, 3)]
            books = []
            for some in names:
                lines = [(some[at], some[at + 1], 0, rng.choice([0, 6, 12, 60])) for at in range(11)]
                lines += [(*rng.sample(some, 2), 0, rng.choice([0, 6, 12, 60])) for _ in range(29)]
                books.append((kind, lines))
            told = carried(books)
            self.assertIs(is_carrying(books, told), True)
            self.assertIs(can_be_kept_along(books), True)
            self.assertEqual([len(names_of(book[1])) for book in told[:3]], [12, 24, 36])
        self.assertLess(time.time() - begun, 15)


if __name__ == "__main__":
    unittest.main()
