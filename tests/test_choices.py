"""[54] to [56], [59] and [60]: choices, barred lots, and what all picks tell."""

import itertools
import random
import time
import unittest

from hourrings.books import is_book
from hourrings.choices import (all_picks, are_choices, barred_lots, common_line, first_picks, follows_all,
                               how_many_picks, is_barred, not_line, picked, unlike_by)
from hourrings.closed import closed_line, follows
from hourrings.errors import (AtOdds, InvalidBook, InvalidChoices, InvalidKind, InvalidLine, InvalidName, InvalidNames,
                              InvalidNumber, InvalidPicks, TooMany)
from hourrings.rings import broken_rings, can_be_kept
from tests.trying import (BIT_BYS, BOOKS, HOUR_BYS, KINDS, NO_COUNTS, ODD, RIGHT, SPANS, THINGS, WRONG_BOOKS,
                          WRONG_KINDS, WRONG_LINES, WRONG_LINES_LISTS, WRONG_NAMES, WRONG_NAMES_LISTS, check_at_odds,
                          check_fresh, check_refusals, check_refused, difference, drawn_line, gcd_of, great_number,
                          keeps_line, line_of, names_of, rest_of, sum_of, times, tried, tried_line)

BOOK = {"hours": ("hours", [("a", "b", 1, 4)]), "bits": ("bits", [("a", "b", 1, 4)])}
CHOICES = [[[("b", "c", 1, 2)], [("b", "c", 0, 2)]], [[("a", "c", 0, 4)], [("a", "c", 3, 4)]]]
WRONG_CHOICES = {kind: THINGS[:5] + [0, "ab", RIGHT, [RIGHT], [[RIGHT]], [[]], [None], [()], [[None]], [[()]], [([],)],
                                     [[[]], []], [[[RIGHT]], None], ([[RIGHT]],), [[(RIGHT,)]], [[[list(RIGHT)]]],
                                     [[[[RIGHT]]]], (), {}, {"a": 1}, [{}], [[{}]], ["ab"], [["ab"]], [[""]], [""],
                                     [[[RIGHT]], [[RIGHT], RIGHT]], InvalidChoices([])]
                 + [[[[RIGHT], [line]]] for line in WRONG_LINES[kind]]
                 + [[[[], lines]] for lines in WRONG_LINES_LISTS[kind]] for kind in KINDS}
NO_PICKS = [None, True, 0, "", "00", (), (0, 0), {}, {0: 0, 1: 0}, [], [0], [0, 0, 0], [0, 2], [2, 0], [-1, 0], [0, -1],
            [0, True], [False, 0], [0, None], ["0", 0], [[0], 0], [(0, 0)], [(0, 0), (1, 0)], [[0, 0]], [0, 10 ** 30],
            InvalidPicks([0, 0])]
NO_LOTS = [None, True, 0, "", "ab", (), ((0, 0),), {}, {(0, 0): 1}, [0], [[0, 0]], [(0,)], [(0, 0, 0)], [()], [None],
           [(2, 0)], [(0, 2)], [(-1, 0)], [(0, -1)], [(0, True)], [(False, 0)], [(0, None)], [("0", 0)], [((0, 0),)],
           [(0, 0), (0, 0)], [(0, 0), (0, 1)], [(1, 0), (0, 0)], [(0, 0), None], [(0, 0), [1, 0]], [(0, [0])],
           [(0, 0), (1, 0), (1, 1)], [[(0, 0)]], [(0, 10 ** 30)], InvalidChoices([(0, 0)])]
CHOICE = {kind: ("choices", CHOICES, [(InvalidChoices, WRONG_CHOICES[kind])]) for kind in KINDS}


def drawn_alternative(rng, kind, names, bys, most):
    return [drawn_line(rng, kind, names, bys) for _ in range(rng.choice([0] + [1, 2] * most) if most > 1 else 1)]


def drawn_choices(rng, kind, names="abc", most=3):
    """A book and choices: some of both such that numbers keep them, some not."""
    bys = rng.choice(HOUR_BYS if kind == "hours" else BIT_BYS)
    lines = [drawn_line(rng, kind, list(names), bys) for _ in range(rng.choice([0, 1, 1, 2]))]
    choices = [[drawn_alternative(rng, kind, list(names), bys, rng.choice([1, 1, 2]))
                for _ in range(rng.choice([1, 2, 2, 3]))] for _ in range(rng.randint(0, most))]
    return (kind, lines), choices


def drawn_many(seed, many, names="abc", most=3):
    rng = random.Random(seed)
    for kind in KINDS:
        for _ in range(many):
            book, choices = drawn_choices(rng, kind, names, most)
            yield rng, book, choices


def lines_picked(lines, choices, lot):
    return lines + [line for number, at in lot for line in choices[number][at]]


def is_kept_by_some(kind, lines):
    """Whether numbers of a span keep all lines: they are tried up to the first ones that do."""
    def goes_on(names, told):
        if not names:
            return True
        for number in SPANS[kind] if told else [0]:
            row = {**told, names[0]: number}
            ready = [line for line in lines if names[0] in line[:2] and line[0] in row and line[1] in row]
            if all(keeps_line(kind, line, row) for line in ready) and goes_on(names[1:], row):
                return True
        return False
    return goes_on(names_of(lines), {})


def picks_and_lines(book, choices):
    """All picks, in order, each with its lines."""
    kind, lines = book
    for picks in itertools.product(*[range(len(choice)) for choice in choices]):
        told = lines_picked(lines, choices, enumerate(picks))
        yield list(picks), told


def all_lots(choices):
    for picks in itertools.product(*[[None] + list(range(len(choice))) for choice in choices]):
        yield [(number, at) for number, at in enumerate(picks) if at is not None]


def good_numbers(rng, kind, names):
    return {name: great_number(rng, kind) for name in names}


def great_choices(rng, kind, sizes, shared=None):
    """A book and choices at the limits, that told numbers keep; the numbers of all lines have a shared divisor."""
    names = ["u999", "vvvvvv999", "w", "x", "y0", "z"]
    told = good_numbers(rng, kind, names)

    def line():
        one, other = rng.sample(names, 2)
        by = shared
        while by is None or by.bit_length() < (90 if kind == "hours" else 34):
            by = great_number(rng, kind) if by is None else times(kind, by, rng.randrange(2, 40))
        return line_of(kind, one, other, difference(kind, told[other], told[one]), by)

    return (kind, [line() for _ in range(40)]), [[[line() for _ in range(6)] for _ in range(size)] for size in sizes]


class Picks(unittest.TestCase):
    def test_by_trying(self):
        seen = []
        for _, book, choices in drawn_many(201, 60):
            found = [(picks, is_kept_by_some(book[0], told)) for picks, told in picks_and_lines(book, choices)]
            good = [picks for picks, kept in found if kept]
            self.assertEqual(check_fresh(self, all_picks, book, choices), good)
            self.assertEqual(check_fresh(self, first_picks, book, choices), good[0] if good else None)
            self.assertEqual(how_many_picks(book, choices), len(good))
            for picks, kept in found:
                told = check_fresh(self, picked, book, choices, picks)
                self.assertEqual(told, (book[0], lines_picked(book[1], choices, enumerate(picks))))
                self.assertIs(can_be_kept(told), kept)
            seen.append("none" if not good else "all" if len(good) == len(found) else "some")
        self.assertGreater(min(seen.count(item) for item in ("none", "some", "all")), 10)

    def test_edges(self):
        for kind in KINDS:
            book, empty, odd = BOOK[kind], (kind, []), ODD[kind]
            self.assertEqual([first_picks(book, []), how_many_picks(book, []), all_picks(book, [])], [[], 1, [[]]])
            self.assertEqual([first_picks(odd, []), how_many_picks(odd, []), all_picks(odd, [])], [None, 0, []])
            self.assertEqual(picked(book, [], []), book)
            self.assertIsNot(picked(book, [], [])[1], book[1])
            self.assertEqual(all_picks(empty, [[[]], [[], []]]), [[0, 0], [0, 1]])
            self.assertEqual(all_picks(odd, [[[]], [[], []]]), [])
            one = [[[("b", "a", 0, 2)]], [[], [("c", "d", 0, 0)]]]
            self.assertEqual(all_picks(book, one), [])
            self.assertEqual(all_picks(empty, one), [[0, 0], [0, 1]])
            self.assertEqual(picked(book, one, [0, 1])[1], [("a", "b", 1, 4), ("b", "a", 0, 2), ("c", "d", 0, 0)])
            # Lines within one alternative can be at odds, too.
            self.assertEqual(all_picks(empty, [[[("a", "b", 0, 0), ("b", "a", 1, 0)], [("a", "b", 0, 0)]]]), [[1]])

    def test_are_choices(self):
        for kind in KINDS:
            for value in ([], [[[]]], CHOICES, CHOICES * 5, [[[RIGHT] * 9] * 7]):
                self.assertIs(are_choices(kind, value), True)
            for value in WRONG_CHOICES[kind]:
                self.assertIs(are_choices(kind, value), False, value)
            check_refusals(self, are_choices, [("kind", kind, [(InvalidKind, WRONG_KINDS)]), ("value", None, [])])
        self.assertIs(are_choices("hours", [[[("a", "b", 5, 6)]]]), True)
        self.assertIs(are_choices("bits", [[[("a", "b", 5, 6)]]]), False)

    def test_how_many(self):
        for kind in KINDS:
            book = BOOK[kind]
            for sizes in ([4, 5, 10], [200], [2, 2, 2, 5, 5, 1, 1, 1]):
                choices = [[[("b", "c", at % 2, 2)] for at in range(size)] for size in sizes]
                good = [list(picks) for picks in itertools.product(*[range(size) for size in sizes])
                        if len({at % 2 for at in picks}) == 1]
                self.assertEqual(all_picks(book, choices), good)
                self.assertEqual([first_picks(book, choices), how_many_picks(book, choices)], [good[0], len(good)])
            for sizes in ([201], [4, 4, 13], [3] * 5, [2] * 8, [4] * 8):
                many = 1
                for size in sizes:
                    many *= size
                for told, choices in ((book, [[[]] * size for size in sizes]), (ODD[kind], [[[RIGHT]] * size
                                                                                          for size in sizes])):
                    calls = [(function, []) for function in (first_picks, how_many_picks, all_picks, barred_lots)]
                    calls += [(follows_all, [RIGHT]), (common_line, ["a", "b"])]
                    for function, more in calls:
                        with self.assertRaises(TooMany) as caught:
                            function(told, choices, *more)
                        self.assertEqual(caught.exception.value, many)
                    self.assertIs(is_barred(told, choices, []), told is not book)
                    self.assertIs(is_book(picked(told, choices, [0] * len(sizes))), True)

    def test_great_choices(self):
        for kind in KINDS:
            for sizes, shared in (([4, 4, 4, 3, 1, 1, 1, 1], None), ([1, 3, 2, 2, 4, 1, 2, 2], 60)):
                rng = random.Random(202)
                book, choices = great_choices(rng, kind, sizes, shared)
                begun = time.time()
                self.assertEqual(how_many_picks(book, choices), 192)
                self.assertEqual(barred_lots(book, choices), [])
                line = common_line(book, choices, "u999", "z")
                self.assertIs(follows(picked(book, choices, [0] * 8), line), True)
                at = sizes.index(max(sizes))
                choices[at] = [lines + [line_of(kind, *line[:2], sum_of(kind, line[2], 1), line[3])]
                               for lines in choices[at]]
                self.assertIs(all_picks(book, choices) == [], line[3] != 1)
                for lot in barred_lots(book, choices):
                    self.assertIs(is_barred(book, choices, lot), True)
                self.assertLess(time.time() - begun, 20)

    def test_refused(self):
        for kind in KINDS:
            both = [("book", BOOK[kind], BOOKS), CHOICE[kind]]
            for function in (first_picks, how_many_picks, all_picks, barred_lots):
                check_refusals(self, function, both)
            check_refusals(self, picked, both + [("picks", [0, 1], [(InvalidPicks, NO_PICKS)])])
            check_refusals(self, is_barred, both + [("value", [], [])])


class Barred(unittest.TestCase):
    def test_all_lots(self):
        seen = []
        for rng, book, choices in drawn_many(203, 60, most=4):
            kind, lines = book
            barred = []
            by_trying = rng.random() < 0.2
            for lot in all_lots(choices):
                told = lines_picked(lines, choices, lot)
                odd = not (is_kept_by_some(kind, told) if by_trying else can_be_kept((kind, told)))
                self.assertIs(is_barred(book, choices, lot), odd)
                if odd:
                    barred.append(lot)
            least = sorted(lot for lot in barred if not any(set(other) < set(lot) for other in barred))
            self.assertEqual(check_fresh(self, barred_lots, book, choices), least)
            self.assertIs([] in barred, not can_be_kept(book))
            self.assertIs(least == [[]], not can_be_kept(book))
            good = all_picks(book, choices)
            for picks in itertools.product(*[range(len(choice)) for choice in choices]):
                has = any(all(picks[number] == at for number, at in lot) for lot in least)
                self.assertIs(list(picks) in good, not has)
            seen.extend(len(lot) for lot in least)
        for size in range(4):
            self.assertGreater(seen.count(size), 1)

    def test_of_rings(self):
        """Broken rings with lines of at most one alternative of each choice, and least lots, come of one another."""
        for _, book, choices in drawn_many(204, 60, names="abcd"):
            kind, lines = book
            places = [None for _ in lines]
            whole = list(lines)
            for number, choice in enumerate(choices):
                for at, more in enumerate(choice):
                    whole += more
                    places += [(number, at) for _ in more]
            found = []
            if len(whole) > 10:
                continue
            for ring in broken_rings((kind, whole)):
                lot = sorted({places[number] for number, _ in ring if places[number] is not None})
                if len({number for number, _ in lot}) == len(lot):
                    found.append(lot)
                    self.assertIs(is_barred(book, choices, lot), True)
            for lot in barred_lots(book, choices):
                self.assertIn(lot, found)

    def test_many_lots(self):
        """Four choices that tell a way together with a line of the book: just such lots are barred as add up wrongly."""
        for kind in KINDS:
            names = "abcde"
            choices = [[[(names[number], names[number + 1], at, 8)] for at in range(size)]
                       for number, size in enumerate((4, 4, 4, 3))] + [[[("e", "f", 0, 8)]] for _ in range(3)]
            for book in ((kind, [("a", "e", 0, 8)]), (kind, [("a", "e", 4, 8)])):
                lots = []
                for picks in itertools.product(range(4), range(4), range(4), range(3)):
                    total = 0
                    for at in picks:
                        total = sum_of(kind, total, at)
                    if rest_of(kind, difference(kind, total, book[1][0][2]), 8) != 0:
                        lots.append(list(enumerate(picks)))
                self.assertEqual(barred_lots(book, choices), lots)
                self.assertEqual(how_many_picks(book, choices), 192 - len(lots))

    def test_wrong_forms(self):
        for kind in KINDS:
            self.assertIs(is_barred(BOOK[kind], CHOICES, [(0, 0), (1, 1)]), True)
            for value in NO_LOTS:
                self.assertIs(is_barred(BOOK[kind], CHOICES, value), False, value)
                self.assertIs(is_barred(ODD[kind], CHOICES, value), False, value)
            for lot in all_lots(CHOICES):
                self.assertIs(is_barred(ODD[kind], CHOICES, lot), True)
            self.assertEqual(barred_lots(ODD[kind], CHOICES), [[]])
            self.assertEqual([barred_lots(ODD[kind], []), barred_lots((kind, []), [])], [[[]], []])


class Not(unittest.TestCase):
    BYS = {"hours": [2, 3, 4, 7, 12], "bits": [2, 3, 4, 5, 7, 8, 11, 15]}
    NO_BYS = {"hours": [0, 1, 13, 14, 24, 10 ** 30], "bits": [0, 1, 16, 17, 31, 2 ** 40]}

    def test_by_trying(self):
        for kind in KINDS:
            for by in self.BYS[kind]:
                span = range(-30, 31) if kind == "hours" else range(64)
                rests = sorted({rest_of(kind, number, by) for number in span})
                self.assertTrue(2 <= len(rests) <= 12)
                for ahead in rests:
                    line = ("b", "a", ahead, by)
                    choice = check_fresh(self, not_line, kind, line)
                    self.assertEqual(choice, [[("b", "a", rest, by)] for rest in rests if rest != ahead])
                    for number in span:
                        told = {"a": number, "b": 3}
                        kept = [keeps_line(kind, other, told) for [other] in choice]
                        self.assertEqual(sum(kept), 0 if keeps_line(kind, line, told) else 1)

    def test_unlike(self):
        for kind in KINDS:
            for by in self.BYS[kind]:
                rests = sorted({rest_of(kind, number, by) for number in range(64)})
                for many in range(5):
                    names = ["a", "b1", "b10", "c"][:many]
                    choices = check_fresh(self, unlike_by, kind, names, by)
                    self.assertEqual(choices, [not_line(kind, (one, other, 0, by))
                                               for one, other in itertools.combinations(names, 2)])
                    if (len(rests) - 1) ** len(choices) <= 200:
                        found = first_picks((kind, []), choices)
                        self.assertIs(found is not None, many <= len(rests))
                        rows = [row for row in itertools.product(rests, repeat=many) if row[:1] in ((), (0,))]
                        good = [row for row in rows if len(set(row)) == many]
                        self.assertEqual(how_many_picks((kind, []), choices), len(good))
        self.assertEqual(unlike_by("hours", [], 2), [])
        self.assertEqual(unlike_by("bits", ["a"], 2), [])
        self.assertEqual(len(unlike_by("hours", ["a", "b", "c", "d", "e", "f"], 12)), 15)

    def test_refused(self):
        for kind in KINDS:
            wrong = WRONG_LINES[kind] + [("a", "b", 0, by) for by in self.NO_BYS[kind]] + [("a", "b", 5, 0)]
            check_refusals(self, not_line, [("kind", kind, [(InvalidKind, WRONG_KINDS)]),
                                            ("line", ("a", "b", 1, 3), [(InvalidLine, wrong)])])
            check_refusals(self, unlike_by, [("kind", kind, [(InvalidKind, WRONG_KINDS)]),
                                             ("names", ["a", "b"], [(InvalidNames, WRONG_NAMES_LISTS)]),
                                             ("by", 3, [(InvalidNumber, NO_COUNTS + self.NO_BYS[kind])])])


class AllPicks(unittest.TestCase):
    def test_common_line(self):
        told = 0
        for rng, book, choices in drawn_many(205, 60):
            kind = book[0]
            names = ["a", "b", "c", "x"]
            good = all_picks(book, choices)
            if not good:
                check_at_odds(self, common_line, [("book", book, []), ("choices", choices, []), ("one", "a", []),
                                                  ("other", "b", [])])
                continue
            books = [picked(book, choices, picks) for picks in good]
            for one, other in itertools.permutations(names, 2):
                lines = [closed_line(told_book, one, other) for told_book in books]
                by = 0
                for line in lines:
                    by = gcd_of(kind, gcd_of(kind, by, line[3]), abs(difference(kind, line[2], lines[0][2])))
                right = line_of(kind, one, other, lines[0][2], by)
                self.assertEqual(common_line(book, choices, one, other), right)
                self.assertIs(follows_all(book, choices, right), True)
                told += right[3] != 1
                for _ in range(4):
                    line = drawn_line(rng, kind, [one, other], [1, 2, 3, 4, 6, 0])
                    self.assertIs(follows_all(book, choices, line), all(follows(told_book, line)
                                                                        for told_book in books))
        self.assertGreater(told, 100)

    def test_by_trying(self):
        """All numbers that keep some good picks' book are told by the strongest line that they have in common."""
        told = 0
        for _, book, choices in drawn_many(206, 30, most=2):
            kind = book[0]
            found = [tried(kind, lines, names_of(lines + [RIGHT]), SPANS[kind])
                     for _, lines in picks_and_lines(book, choices)]
            rows = [row for some in found for row in some]
            if rows:
                told += 1
                self.assertEqual(common_line(book, choices, "a", "b"), tried_line(kind, rows, "a", "b"))
        self.assertGreater(told, 30)

    def test_refused(self):
        for kind in KINDS:
            both = [("book", BOOK[kind], BOOKS), CHOICE[kind]]
            line = ("line", RIGHT, [(InvalidLine, WRONG_LINES[kind])])
            names = [("one", "a", [(InvalidName, WRONG_NAMES)]), ("other", "x", [(InvalidName, WRONG_NAMES + ["a"])])]
            check_refusals(self, follows_all, both + [line])
            check_refusals(self, common_line, both + names)
            odd = [("book", ODD[kind], BOOKS), CHOICE[kind]]
            check_at_odds(self, follows_all, odd + [line])
            check_at_odds(self, common_line, odd + names)
            none = [("book", BOOK[kind], BOOKS), ("choices", [[[("b", "a", 0, 2)]]], [])]
            check_at_odds(self, follows_all, none + [line])
            check_at_odds(self, common_line, none + names)
            many = [[[]] * 201]
            for wrong in WRONG_LINES[kind]:
                check_refused(self, follows_all, InvalidLine, wrong, ["book", "choices", "line"],
                              [ODD[kind], many, wrong])
            for wrong in WRONG_NAMES:
                check_refused(self, common_line, InvalidName, wrong, ["book", "choices", "one", "other"],
                              [ODD[kind], many, "b", wrong])


if __name__ == "__main__":
    unittest.main()
