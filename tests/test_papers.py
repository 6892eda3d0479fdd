"""[29] to [35]: papers for lines, against lines and against books."""

import copy
import random
import time
import unittest

from hourrings.closed import closed, follows, news_of
from hourrings.errors import InvalidLine, InvalidPaper
from hourrings.papers import (is_never_paper, is_odds_paper, is_paper, is_paper_for, never_paper, odds_paper, paper_for,
                              put_through, ring_of_odds, told_lines, trimmed, used_lines)
from hourrings.rings import can_be_kept, is_broken, is_ring, told_ring
from tests.trying import (BOOKS, KINDS, ODD, THINGS, WRONG_LINES, check_at_odds, check_fresh, check_refusals,
                          difference, drawn_book, drawn_line, gcd_of, goes_into, great_book, great_names, great_number, keeps_line,
                          lcm_of, line_of, names_of, sum_of, tried_books)

BOOK = ("hours", [("a", "b", 7, 12), ("b", "c", 3, 8), ("a", "c", 1, 3)])
PAPER = [("told", 0), ("told", 1), ("joined", 0, 1), ("told", 2), ("met", 2, 3), ("turned", 4), ("less", 5, 6)]
BYS = {"hours": [0, 1, 2, 3, 4, 6, 12], "bits": [0, 1, 2, 3, 4, 5, 6, 10, 12]}
# Entries that can't stand behind the first three of PAPER.
NO_ENTRIES = THINGS + [
    "told", ("told",), ["told", 0], ("told", 0, 0), ("told", 3), ("told", -1), ("told", True), ("told", False),
    ("told", "0"), ("told", None), ("told", (0,)), ("Told", 0), (None, 0), (0, "told"), (("told", 0),), [("told", 0)],
    (True, 0), (["told"], 0), ("nothing", "a"), ("nothing", "a", "a"), ("nothing", "A", "b"),
    ("nothing", "a", "b", "c"),
    ("nothing", "a", None), ("nothing", 0, 1), ("nothing", ["a"], "b"), ["nothing", "a", "b"], ("nothing", "a", "b00"),
    ("turned",), ("turned", 3), ("turned", 4), ("turned", -1), ("turned", True), ("turned", 0, 1), ("turned", "0"),
    ["turned", 0], ("turned", None), ("turned", [0]), ("joined", 0), ("joined", 0, 1, 2), ("joined", 1, 0),
    ("joined", 0, 0), ("joined", 0, 2), ("joined", 0, 3), ("joined", 3, 1), ("joined", -3, 1), ("joined", 0, -2),
    ("joined", False, 1), ("joined", 0, True), ("joined", "0", "1"), ["joined", 0, 1], ("met", 0), ("met", 0, 1),
    ("met", 0, 2), ("met", 2, 3), ("met", 3, 2), ("met", 2, -1), ("met", True, 1), ("met", 0, False), ["met", 0, 0],
    ("met", 0, 0, 0), ("less", 0), ("less", 0, 5), ("less", 0, 24), ("less", 0, 0), ("less", 0, -6), ("less", 0, True),
    ("less", 0, "6"), ("less", 0, None), ("less", 0, 6, 6), ("less", 3, 6), ("less", -3, 6), ("less", True, 2),
    ["less", 0, 6], ("less", 0, [6]), ("more", 0), ("", 0), ("told ", 0), InvalidPaper(("told", 0))]
NO_PAPERS = [None, True, 0, "", "told", (), (("told", 0),), {}, {0: ("told", 0)}, ("told", 0), InvalidPaper([])]
NO_PAPERS += [PAPER[:3] + [entry] for entry in NO_ENTRIES] + [[entry] for entry in NO_ENTRIES[-60:]]
NO_PAPERS += [[("turned", 0)], [("joined", 1, 2), ("told", 0), ("told", 1)], [("told", 0), ("turned", 1)], tuple(PAPER)]


def judged(book, value):
    """The lines that a paper tells, read another way than the package does; None if it is no paper."""
    kind, lines = book
    told = []
    for entry in value:
        word, *parts = entry
        elders = {"turned": 1, "joined": 2, "met": 2, "less": 1}.get(word, 0)
        if not all(0 <= at < len(told) for at in parts[:elders]):
            return None
        elder = [told[at] for at in parts[:elders]]
        if word == "told":
            line = lines[parts[0]] if 0 <= parts[0] < len(lines) else None
        elif word == "nothing":
            line = (*parts, 0, 1) if parts[0] != parts[1] else None
        elif word == "turned":
            one, other, ahead, by = elder[0]
            line = line_of(kind, other, one, difference(kind, 0, ahead), by)
        elif word == "less":
            one, other, ahead, by = elder[0]
            line = line_of(kind, one, other, ahead, parts[1]) if goes_into(kind, parts[1], by) else None
        elif word == "joined":
            (one, mid, ahead, by), (begin, end, more, more_by) = elder
            fits = mid == begin and one != end
            line = line_of(kind, one, end, sum_of(kind, ahead, more), gcd_of(kind, by, more_by)) if fits else None
        else:
            line = judged_met(kind, *elder)
        if line is None:
            return None
        told.append(line)
    return told


def judged_met(kind, one, other):
    """Met by trying, as far as the numbers are small; exact lines are the met ones themselves."""
    if one[:2] != other[:2]:
        return None
    if one[3] == 0 or other[3] == 0:
        exact, more = (one, other) if one[3] == 0 else (other, one)
        return exact if goes_into(kind, more[3], difference(kind, exact[2], more[2])) else None
    by = lcm_of(kind, one[3], other[3])
    for ahead in range(by if kind == "hours" else 1 << by.bit_length() - 1):
        if all(goes_into(kind, line[3], difference(kind, ahead, line[2])) for line in (one, other)):
            return (*one[:2], ahead, by)
    return None


def drawn_entry(rng, many, names, lines):
    elder = [rng.randrange(max(1, many)) for _ in range(2)]
    return rng.choice([("told", rng.randrange(max(1, lines))), ("nothing", *rng.sample(names, 2)), ("turned", elder[0]),
                       ("joined", *elder), ("joined", *elder), ("met", *elder), ("met", *elder),
                       ("less", elder[0], rng.choice([0, 1, 2, 3, 4, 5, 6]))])


def drawn_paper(rng, book, most):
    """A paper of drawn entries, of which those that can't stand there are most often left out."""
    paper = []
    for _ in range(most):
        entry = drawn_entry(rng, len(paper), ["a", "b", "c", "x"], len(book[1]))
        if judged(book, paper + [entry]) is not None or rng.random() < 0.01:
            paper.append(entry)
    return paper


def papers_of_drawn_books(seed, many, most=14):
    rng = random.Random(seed)
    for kind in KINDS:
        for _ in range(many):
            book = drawn_book(rng, kind, ["a", "b", "c"], 5)
            yield rng, book, drawn_paper(rng, book, most)


def most_entries(book):
    return 4 * len(book[1]) + 2 * len(names_of(book[1])) ** 3 + 3


class Judged(unittest.TestCase):
    def test_drawn_papers(self):
        words, right = [], []
        for _, book, paper in papers_of_drawn_books(71, 200):
            told = judged(book, paper)
            self.assertIs(is_paper(book, paper), told is not None, (book, paper))
            right.append(told is not None)
            if told is None:
                self.assertRaises(InvalidPaper, told_lines, book, paper)
                continue
            self.assertEqual(check_fresh(self, told_lines, book, paper), told, (book, paper))
            words += [entry[0] for entry in paper]
        self.assertGreater(min(right.count(True), right.count(False)), 20)
        for word in ("told", "nothing", "turned", "joined", "met", "less"):
            self.assertGreater(words.count(word), 50)

    def test_each_entry_behind_a_few(self):
        """All entries with small numbers behind papers of each kind."""
        for book, paper in ((BOOK, PAPER), (ODD["bits"], [("told", 0), ("told", 1), ("joined", 0, 1), ("told", 2)])):
            for word in ("told", "turned", "joined", "met", "less"):
                for one in range(-1, len(paper) + 1):
                    for other in ([None] if word in ("told", "turned") else range(-1, 13)):
                        entry = (word, one) if other is None else (word, one, other)
                        told = judged(book, paper + [entry])
                        if word == "less" and other == -1 or word in ("told", "turned") and one == -1:
                            told = None
                        self.assertIs(is_paper(book, paper + [entry]), told is not None, entry)
                        if told is not None:
                            self.assertEqual(told_lines(book, paper + [entry]), told)

    def test_it_is_kept(self):
        """All numbers that keep a book keep each line that a paper of it tells."""
        for rng, book, rows in tried_books(72, 40):
            for line in told_lines(book, [entry for entry in self.paper(rng, book)]):
                if "x" not in line[:2]:
                    for row in rows:
                        row = {"a": 0, "b": 0, "c": 0, **row} if line[3] == 1 else row
                        self.assertTrue(keeps_line(book[0], line, row), (book, line))

    def paper(self, rng, book):
        paper = drawn_paper(rng, book, 20)
        while judged(book, paper) is None:
            paper.pop()
        return paper

    def test_wrong_forms(self):
        for value in NO_PAPERS:
            self.assertIs(is_paper(BOOK, value), False, value)
        for at in range(len(PAPER) + 1):
            self.assertIs(is_paper(BOOK, PAPER[:at]), True)
        for kind in KINDS:
            self.assertIs(is_paper((kind, []), [("told", 0)]), False)
            self.assertIs(is_paper((kind, []), []), True)
            self.assertIs(is_paper((kind, []), [("nothing", "a", "b"), ("turned", 0)]), True)
            self.assertEqual(told_lines((kind, []), []), [])

    def test_exact_lines(self):
        book = ("hours", [("a", "b", -5, 0), ("b", "c", 9, 0), ("a", "c", 4, 6), ("a", "c", 3, 0)])
        paper = [("told", 0), ("told", 1), ("joined", 0, 1), ("told", 2), ("met", 2, 3), ("met", 3, 2), ("less", 4, 5),
                 ("less", 4, 0), ("turned", 7), ("less", 8, 3), ("less", 8, 10 ** 29)]
        self.assertEqual(told_lines(book, paper)[4:], [("a", "c", 4, 0), ("a", "c", 4, 0), ("a", "c", 4, 5),
                                                       ("a", "c", 4, 0), ("c", "a", -4, 0), ("c", "a", 2, 3),
                                                       ("c", "a", 10 ** 29 - 4, 10 ** 29)])
        for entry in (("met", 2, 11), ("met", 11, 2), ("met", 3, 11), ("less", 3, 0), ("less", 3, 4)):
            self.assertIs(is_paper(book, paper + [("told", 3), entry]), False)
        words = ("bits", [("a", "b", 5, 0), ("b", "c", 3, 6)])
        self.assertEqual(told_lines(words, [("told", 0), ("turned", 0), ("less", 1, 2), ("told", 1), ("less", 3, 3),
                                            ("joined", 0, 3), ("joined", 0, 4)]),
                         [("a", "b", 5, 0), ("b", "a", 5, 0), ("b", "a", 1, 2), ("b", "c", 3, 6), ("b", "c", 0, 3),
                          ("a", "c", 0, 6), ("a", "c", 0, 3)])
        self.assertIs(is_paper(words, [("told", 1), ("less", 0, 5)]), False)

    def test_five_thousand_entries(self):
        rng = random.Random(73)
        for kind in KINDS:
            book = great_book(rng, kind, 60)
            paper = [("told", at) for at in range(40)]
            while len(paper) < 4999:
                paper.append(("turned", len(paper) - 40))
            begun = time.time()
            paper.append(("less", 4998, 3))
            self.assertEqual(told_lines(book, paper)[-1][3], 3)
            self.assertEqual(len(trimmed(book, paper)), 126)
            self.assertEqual(len(used_lines(book, paper)), 1)
            whole = put_through(book, [paper, paper], [("told", 1), ("turned", 0)])
            self.assertEqual(told_lines(book, whole)[-1][3], 3)
            self.assertLess(time.time() - begun, 5)

    def test_long_numbers(self):
        """An exact line, told less by thousands of numbers that are met again, tells ever longer numbers."""
        rng = random.Random(87)
        for kind in KINDS:
            book = (kind, [("a", "b", great_number(rng, kind), 0)])
            bys = [great_number(rng, kind) for _ in range(2499)]
            paper = [("told", 0)] + [("less", 0, by) for by in bys]
            paper += [("met", len(paper) - 1, 1)] + [("met", len(paper) + at, at + 2) for at in range(2499 - 2)]
            begun = time.time()
            one, other, ahead, by = told_lines(book, paper)[-1]
            self.assertEqual((one, other, ahead), book[1][0][:3])
            self.assertTrue(all(goes_into(kind, some, by) for some in bys[:3]))
            self.assertGreater(by.bit_length(), 2499 * 25)
            self.assertLess(time.time() - begun, 20)

    def test_refused(self):
        check_refusals(self, is_paper, [("book", BOOK, BOOKS), ("value", None, [])])
        for function in (told_lines, used_lines, trimmed):
            check_refusals(self, function, [("book", BOOK, BOOKS), ("paper", PAPER, [(InvalidPaper, NO_PAPERS)])])


class PaperFor(unittest.TestCase):
    def check(self, book, line):
        paper = check_fresh(self, paper_for, book, line)
        self.assertIs(paper is not None, follows(book, line), (book, line))
        if paper is None:
            return False
        self.assertEqual(judged(book, paper)[-1], line)
        self.assertIs(is_paper_for(book, line, paper), True)
        self.assertLessEqual(len(paper), most_entries(book))
        return True

    def test_by_trying(self):
        found = []
        for rng, book, rows in tried_books(74, 40):
            kind, lines = book
            asked = closed(book) + lines + [drawn_line(rng, kind, ["a", "b", "c", "x"], BYS[kind]) for _ in range(5)]
            for one, other, ahead, by in closed(book):
                asked.append(line_of(kind, other, one, difference(kind, 0, ahead), by))
                for less in range(2, 7):
                    if goes_into(kind, less, by):
                        asked.append(line_of(kind, one, other, ahead, less))
            for line in asked:
                found.append(self.check(book, line))
                if set(line[:2]) <= set(names_of(lines)):
                    self.assertIs(found[-1], all(keeps_line(kind, line, row) for row in rows))
        self.assertGreater(min(found.count(True), found.count(False)), 100)

    def test_five_names(self):
        rng = random.Random(75)
        for kind in KINDS:
            for _ in range(60):
                book = drawn_book(rng, kind, ["a", "b", "c", "d", "e"], 7)
                if can_be_kept(book):
                    for line in closed(book):
                        self.check(book, line)

    def test_numbers_that_divide_in_one_kind_alone(self):
        rng = random.Random(86)
        for kind in KINDS:
            for _ in range(80):
                told = {name: rng.randrange(60) for name in "abcd"}
                lines = []
                for _ in range(rng.randint(2, 8)):
                    one, other = rng.sample("abcd", 2)
                    number = difference(kind, told[other], told[one])
                    lines.append(line_of(kind, one, other, number, rng.choice([3, 5, 10, 15, 17, 25, 34, 51, 7, 0])))
                book = (kind, lines)
                for line in closed(book):
                    for by in (line[3], 3, 5, 10, 15, 17):
                        self.check(book, line_of(kind, line[1], line[0], difference(kind, 0, line[2]), by))

    def test_edges(self):
        for kind in KINDS:
            self.assertEqual(paper_for((kind, []), ("x", "a", 0, 1)), [("nothing", "x", "a")])
            self.assertIsNone(paper_for((kind, []), ("x", "a", 0, 2)))
            one = (kind, [("a", "b", 1, 2)])
            self.assertEqual(told_lines(one, paper_for(one, ("b", "a", 1, 2)))[-1], ("b", "a", 1, 2))
            self.assertIs(self.check(one, ("a", "b", 0, 1)), True)
            self.assertIs(self.check(one, ("a", "b", 1, 4)), False)
            self.assertIs(self.check(one, ("a", "b", 0, 2)), False)
            self.assertIs(self.check((kind, [("a", "b", 1, 2)] * 5), ("a", "b", 1, 2)), True)
            self.assertIs(self.check((kind, [("a", "b", 0, 1)] * 5), ("a", "b", 0, 1)), True)
            self.assertIs(self.check((kind, [("a", "b", 5, 0), ("b", "c", 1, 0)]), ("c", "a", 0, 2)), True)
            self.assertIs(self.check((kind, [("a", "b", 5, 0), ("b", "c", 1, 0)]), ("c", "a", 1, 2)), False)

    def test_judged(self):
        line = ("c", "a", 2, 6)
        self.assertIs(is_paper_for(BOOK, line, PAPER), True)
        for value in NO_PAPERS + [[], PAPER[:-1], PAPER + [("told", 0)], PAPER[::-1]]:
            self.assertIs(is_paper_for(BOOK, line, value), False, value)
        for other in (("c", "a", 2, 12), ("a", "c", 4, 6), ("c", "a", 0, 2), ("c", "b", 2, 6), ("x", "a", 2, 6)):
            self.assertIs(is_paper_for(BOOK, other, PAPER), False)
        # A book at odds tells lines as well, two of the same names that do not agree among them.
        odd = ODD["hours"]
        for line, entry in ((("a", "c", 2, 6), [("told", 0), ("told", 1), ("joined", 0, 1)]),
                            (("a", "c", 1, 4), [("told", 2)])):
            self.assertIs(is_paper_for(odd, line, entry), True)

    def test_great_books(self):
        rng = random.Random(76)
        begun = time.time()
        names = great_names(12)
        for kind in KINDS:
            for shared in (0, 1, 6, 60):
                book = great_book(rng, kind, shared)
                for line in closed(book)[::13] + [book[1][39]]:
                    paper = paper_for(book, line)
                    self.assertIs(is_paper_for(book, line, paper), True)
                    self.assertLessEqual(len(paper), most_entries(book))
                    self.assertEqual(trimmed(book, paper), paper)
                self.assertIsNone(paper_for(book, (names[0], "x", 0, 2)))
        self.assertLess(time.time() - begun, 10)

    def test_refused(self):
        for kind in KINDS:
            book = (kind, [("a", "b", 1, 2)])
            lines = [("line", ("a", "b", 0, 1), [(InvalidLine, WRONG_LINES[kind])])]
            for function in (paper_for, never_paper):
                check_refusals(self, function, [("book", book, BOOKS)] + lines)
                check_at_odds(self, function, [("book", ODD[kind], [])] + lines)
            for function in (is_paper_for, is_never_paper):
                for good in (book, ODD[kind]):
                    check_refusals(self, function, [("book", good, BOOKS)] + lines + [("value", None, [])])


class AgainstBooks(unittest.TestCase):
    def check_ring(self, book, value):
        ring = check_fresh(self, ring_of_odds, book, value)
        self.assertIs(is_ring(book, ring) and is_broken(book, ring), True)
        self.assertEqual(ring, told_ring(book, ring))
        told = [entry[1] for entry in value[0] if entry[0] == "told"]
        self.assertTrue({number for number, _ in ring} <= set(told), (book, value, ring))

    def test_drawn_books(self):
        rng = random.Random(77)
        for kind in KINDS:
            odd = 0
            for _ in range(150):
                book = drawn_book(rng, kind, ["a", "b", "c", "d", "e"][:rng.randint(2, 5)], 9)
                value = check_fresh(self, odds_paper, book)
                self.assertIs(value is None, can_be_kept(book))
                if value is not None:
                    odd += 1
                    self.assertIsInstance(value, tuple)
                    paper, first, second = value
                    told = judged(book, paper)
                    self.assertEqual(told[first][:2], told[second][:2])
                    self.assertIsNone(judged_met(kind, told[first], told[second]))
                    self.assertIs(is_odds_paper(book, value), True)
                    self.assertIs(is_odds_paper(book, (paper, second, first)), True)
                    self.assertLessEqual(len(paper), most_entries(book))
                    self.check_ring(book, value)
            self.assertGreater(odd, 40)

    def test_drawn_papers(self):
        found = 0
        for rng, book, paper in papers_of_drawn_books(78, 150, 25):
            told = judged(book, paper)
            for first in range(len(paper)):
                for second in range(len(paper)):
                    right = told is not None and told[first][:2] == told[second][:2]
                    right = right and judged_met(book[0], told[first], told[second]) is None
                    self.assertIs(is_odds_paper(book, (paper, first, second)), right)
                    if right:
                        self.assertIs(can_be_kept(book), False)
                        found += 1
                        if rng.random() < 0.1:
                            self.check_ring(book, (paper, first, second))
        self.assertGreater(found, 100)

    def test_idle_lines(self):
        """A ring takes lines that the paper tells alone, whatever other rings the book has."""
        lines = [("a", "b", 0, 2), ("a", "b", 1, 2), ("b", "c", 0, 4), ("b", "c", 2, 4)]
        for kind in KINDS:
            value = ([("told", 3), ("told", 2)], 0, 1)
            self.assertEqual(ring_of_odds((kind, lines), value), [(2, -1), (3, 1)])
            value = ([("told", 0), ("told", 1), ("less", 1, 2)], 2, 0)
            self.assertEqual(ring_of_odds((kind, lines), value), [(0, -1), (1, 1)])

    def test_wrong_forms(self):
        odd = ("hours", [("a", "b", 1, 4), ("b", "c", 1, 6), ("a", "c", 1, 2)])
        paper = [("told", 0), ("told", 1), ("joined", 0, 1), ("told", 2), ("turned", 3)]
        right = (paper, 2, 3)
        self.assertIs(is_odds_paper(odd, right), True)
        wrong = THINGS + [paper, (paper,), (paper, 2), (paper, 2, 3, 4), [paper, 2, 3], (paper, [2, 3]),
                          (paper, (2, 3)), (paper, 2, 2), (paper, 2, 4), (paper, 0, 3), (paper, 2, 5), (paper, -3, 3), (paper, 2, -2),
                          (paper, True, 3), (paper, 2, None), (paper, "2", "3"), (tuple(paper), 2, 3), ([], 0, 0),
                          (None, 2, 3), (paper + [("told", 3)], 2, 3), (paper + [["told", 0]], 2, 3), (2, 3, paper)]
        for value in wrong:
            self.assertIs(is_odds_paper(odd, value), False, value)
        check_refusals(self, ring_of_odds, [("book", odd, BOOKS), ("value", right, [(InvalidPaper, wrong)])])
        check_refusals(self, is_odds_paper, [("book", odd, BOOKS), ("value", None, [])])
        check_refusals(self, odds_paper, [("book", odd, BOOKS)])
        for kind in KINDS:
            self.assertIsNone(odds_paper((kind, [])))
            self.assertIs(is_odds_paper((kind, []), ([("nothing", "a", "b")] * 2, 0, 1)), False)
            self.assertRaises(InvalidPaper, ring_of_odds, (kind, []), None)

    def test_great_books(self):
        rng = random.Random(79)
        begun = time.time()
        for kind in KINDS:
            for shared in (0, 6, 60):
                book = great_book(rng, kind, shared, 39)
                one, other, ahead, by = book[1][rng.randrange(39)]
                odd = (kind, book[1] + [line_of(kind, other, one, sum_of(kind, difference(kind, 0, ahead), 1), by)])
                value = odds_paper(odd)
                self.assertIs(is_odds_paper(odd, value), True)
                self.check_ring(odd, value)
                self.assertIsNone(odds_paper(book))
        self.assertLess(time.time() - begun, 10)


class AgainstLines(unittest.TestCase):
    def test_by_trying(self):
        found = []
        for rng, book, _ in tried_books(80, 50):
            kind, lines = book
            for _ in range(8):
                line = drawn_line(rng, kind, ["a", "b", "c", "x"], BYS[kind])
                paper = check_fresh(self, never_paper, book, line)
                found.append(news_of(book, line) == "never")
                self.assertIs(paper is not None, found[-1])
                if paper is not None:
                    last = judged(book, paper)[-1]
                    self.assertEqual(last[:2], line[:2])
                    self.assertIsNone(judged_met(kind, last, line))
                    self.assertIs(is_never_paper(book, line, paper), True)
                    self.assertLessEqual(len(paper), most_entries(book))
        self.assertGreater(min(found.count(True), found.count(False)), 100)

    def test_drawn_papers(self):
        found = []
        for rng, book, paper in papers_of_drawn_books(81, 150):
            told = judged(book, paper)
            for _ in range(6):
                line = drawn_line(rng, book[0], ["a", "b", "c"], BYS[book[0]])
                right = bool(told) and told[-1][:2] == line[:2] and judged_met(book[0], told[-1], line) is None
                self.assertIs(is_never_paper(book, line, paper), right)
                if right and can_be_kept(book):
                    self.assertEqual(news_of(book, line), "never")
                found.append(right)
        self.assertGreater(found.count(True), 30)

    def test_judged(self):
        line = ("c", "a", 3, 6)
        self.assertIs(is_never_paper(BOOK, line, PAPER), True)
        for value in NO_PAPERS + [[], PAPER[:5], PAPER + [("told", 0)]]:
            self.assertIs(is_never_paper(BOOK, line, value), False, value)
        for other in (("a", "c", 3, 6), ("c", "a", 2, 6), ("c", "a", 2, 12), ("c", "a", 3, 5), ("c", "a", 0, 1)):
            self.assertIs(is_never_paper(BOOK, other, PAPER), False)
        self.assertIs(is_never_paper(ODD["hours"], ("a", "c", 0, 4), [("told", 2)]), True)
        self.assertIs(is_never_paper(ODD["hours"], ("c", "a", 0, 4), [("told", 2)]), False)

    def test_great_books(self):
        rng = random.Random(82)
        begun = time.time()
        for kind in KINDS:
            for shared in (0, 6, 60):
                book = great_book(rng, kind, shared)
                one, other = rng.sample(great_names(12), 2)
                line = (one, other, great_number(rng, kind) | 1, 0)
                paper = never_paper(book, line)
                self.assertIs(paper is not None, news_of(book, line) == "never")
                self.assertIs(is_never_paper(book, line, paper), paper is not None)
        self.assertLess(time.time() - begun, 10)


def leaned(paper, at):
    """The numbers of an entry and of all that it leans on."""
    elders = {"turned": 1, "joined": 2, "met": 2, "less": 1}.get(paper[at][0], 0)
    return {at}.union(*[leaned(paper, elder) for elder in paper[at][1:1 + elders]])


class Leaning(unittest.TestCase):
    def test_drawn_papers(self):
        less = 0
        for _, book, paper in papers_of_drawn_books(83, 250):
            told = judged(book, paper)
            if told is None or not paper:
                continue
            needed = sorted(leaned(paper, len(paper) - 1))
            used = sorted({paper[at][1] for at in needed if paper[at][0] == "told"})
            self.assertEqual(check_fresh(self, used_lines, book, paper), used)
            part = check_fresh(self, trimmed, book, paper)
            self.assertEqual([entry[0] for entry in part], [paper[at][0] for at in needed])
            self.assertEqual(judged(book, part), [told[at] for at in needed])
            self.assertEqual(trimmed(book, part), part)
            self.assertEqual(used_lines(book, part), used)
            less += len(part) < len(paper)
            some = (book[0], [book[1][at] for at in used])
            if can_be_kept(some):
                self.assertIs(follows(some, told[-1]), True)
        self.assertGreater(less, 50)

    def test_examples(self):
        self.assertEqual(trimmed(BOOK, [("told", 1), ("told", 0), ("turned", 1)]), [("told", 0), ("turned", 0)])
        self.assertEqual(trimmed(BOOK, [("told", 0), ("told", 0), ("met", 0, 1), ("met", 0, 0), ("less", 3, 1)]),
                         [("told", 0), ("met", 0, 0), ("less", 1, 1)])
        # The number of a line, and a `by`, are no numbers of entries.
        self.assertEqual(trimmed(BOOK, [("nothing", "a", "b"), ("told", 1), ("told", 0), ("less", 2, 1)]),
                         [("told", 0), ("less", 0, 1)])
        self.assertEqual([trimmed(BOOK, []), used_lines(BOOK, [])], [[], []])
        self.assertEqual(used_lines(BOOK, [("told", 2), ("nothing", "a", "b")]), [])
        self.assertEqual(used_lines(BOOK, [("told", 2), ("told", 1), ("told", 1)]), [1])
        self.assertEqual(used_lines(BOOK, PAPER), [0, 1, 2])

    def test_many_shared_entries(self):
        """Each entry leans twice on the one ahead: as many ways lead to the first one as no one could go through."""
        paper = [("told", 0)] + [("met", at, at) for at in range(200)]
        self.assertEqual([trimmed(BOOK, paper), used_lines(BOOK, paper)], [paper, [0]])


class Through(unittest.TestCase):
    def test_drawn_papers(self):
        rng = random.Random(84)
        seen = 0
        for kind in KINDS:
            for _ in range(600):
                book = drawn_book(rng, kind, ["a", "b", "c"], 5)
                papers = [drawn_paper(rng, book, rng.randint(1, 8)) for _ in range(rng.randint(0, 4))]
                if not all(paper and judged(book, paper) for paper in papers):
                    continue
                upper = (kind, [judged(book, paper)[-1] for paper in papers])
                paper = drawn_paper(rng, upper, 8)
                if judged(upper, paper) is None:
                    self.assertRaises(InvalidPaper, put_through, book, papers, paper)
                    continue
                whole = check_fresh(self, put_through, book, papers, paper)
                told = judged(book, whole)
                self.assertEqual(told[-1:], judged(upper, paper)[-1:])
                self.assertIs(is_paper(book, whole), True)
                seen += len(whole) > 3
        self.assertGreater(seen, 20)

    def test_examples(self):
        papers = [[("told", 0), ("turned", 0)], [("told", 1), ("told", 2)]]
        for paper in ([("told", 0)], [("told", 1)], [("told", 1), ("told", 0)], [("nothing", "a", "x"), ("told", 1)],
                      [("told", 0), ("told", 1), ("joined", 0, 1)], [("told", 1), ("nothing", "x", "y")]):
            whole = put_through(BOOK, papers, paper)
            upper = ("hours", [("b", "a", 5, 12), ("a", "c", 1, 3)])
            self.assertEqual(judged(BOOK, whole)[-1], judged(upper, paper)[-1])
        self.assertEqual(put_through(BOOK, papers, []), [])
        self.assertEqual(put_through(BOOK, [], []), [])
        self.assertEqual(put_through(BOOK, [], [("nothing", "a", "b")]), [("nothing", "a", "b")])

    def test_papers_of_papers(self):
        """What follows from the closed lines of a book follows from it, by papers put together."""
        for rng, book, _ in tried_books(85, 30):
            kind = book[0]
            upper = (kind, closed(book))
            papers = [paper_for(book, line) for line in upper[1]]
            for line in closed(upper):
                whole = put_through(book, papers, paper_for(upper, line))
                self.assertIs(is_paper_for(book, line, whole), True)

    def test_refused(self):
        good = [[("told", 0)], [("told", 0), ("turned", 0)]]
        wrong = NO_PAPERS[:10] + [good[0], [[]], good + [[]], tuple(good), [tuple(good[0])], [None], good + [None]]
        wrong += [good + [paper] for paper in NO_PAPERS[10:]] + [good + [[("told", 3)]]]
        no_papers = [paper for paper in NO_PAPERS if not is_paper(("hours", [BOOK[1][0], ("b", "a", 5, 12)]), paper)]
        self.assertGreater(len(no_papers), 50)
        check_refusals(self, put_through, [("book", BOOK, BOOKS), ("papers", good, [(InvalidPaper, wrong)]),
                                           ("paper", [("told", 1)], [(InvalidPaper, no_papers + [[("told", 2)]])])])
        ahead = copy.deepcopy(good)
        put_through(BOOK, good, [("told", 1)]).append("bent")
        self.assertEqual(good, ahead)


if __name__ == "__main__":
    unittest.main()
