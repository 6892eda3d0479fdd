"""[2], [3], [4], [6]: names, lines, books and numbers of names."""

import itertools
import random
import time
import unittest

from hourrings.books import (are_lines, are_numbers, is_book, is_keeping, is_line, is_name, keeps, moved, plain_line,
                             unkept, unknowns)
from hourrings.errors import (InvalidBook, InvalidKind, InvalidLine, InvalidName, InvalidNames, InvalidNumber,
                              InvalidNumbers)
from tests.trying import (KINDS, NO_COUNTS, THINGS, WRONG_BOOKS, WRONG_KINDS, WRONG_LINES, WRONG_LINES_LISTS,
                          WRONG_NAMES, WRONG_NAMES_LISTS, WRONG_NUMBERS, WRONG_NUMBERS_OF, check_fresh, check_refusals,
                          difference, drawn_book, drawn_line, goes_into, great_book, great_names, great_number,
                          keeps_line, sum_of)

BOOK = ("hours", [("a", "b", 7, 12), ("b", "c", 3, 0), ("a", "c", 2, 4)])
WORDS = ("bits", [("a", "b", 3, 5), ("c", "b", 6, 0), ("a", "c", 1, 2)])
KIND = ("kind", "hours", [(InvalidKind, WRONG_KINDS)])


class Names(unittest.TestCase):
    def test_names(self):
        for name in ("a", "z", "abcdef", "a0", "a9", "a10", "a100", "a999", "zzzzzz999", "noon"):
            self.assertIs(is_name(name), True, name)

    def test_no_names(self):
        for value in THINGS + WRONG_NAMES:
            self.assertIs(is_name(value), value == "a", value)

    def test_all_short_strings(self):
        for many in range(4):
            for signs in itertools.product("az019A `{/:", repeat=many):
                text = "".join(signs)
                letters = text.rstrip("019")
                figures = text[len(letters):]
                right = letters != "" and set(letters) <= set("az") and (figures[:1] != "0" or figures == "0")
                self.assertIs(is_name(text), right, text)


class Lines(unittest.TestCase):
    def test_wrong_forms(self):
        for kind in KINDS:
            for value in THINGS + WRONG_LINES[kind]:
                self.assertIs(is_line(kind, value), False, value)
            for value in THINGS + WRONG_LINES_LISTS[kind]:
                self.assertIs(are_lines(kind, value), value == [], value)

    def test_all_small(self):
        for ahead, by in itertools.product(range(-3, 20), range(-2, 17)):
            self.assertIs(is_line("hours", ("a", "b", ahead, by)), by == 0 or 0 <= ahead < by)
            right = ahead >= 0 and by >= 0 and (by == 0 or len(bin(ahead)) < len(bin(by)) or ahead == 0)
            self.assertIs(is_line("bits", ("a", "b", ahead, by)), right, (ahead, by))

    def test_each_kind(self):
        self.assertIs(is_line("hours", ("a", "b", -10 ** 29, 0)), True)
        self.assertIs(is_line("bits", ("a", "b", 10 ** 29, 0)), True)
        self.assertIs(is_line("bits", ("a", "b", 7, 8)), True)
        self.assertIs(is_line("bits", ("a", "b", 8, 9)), False)
        self.assertIs(is_line("hours", ("b", "a", 8, 9)), True)
        for kind in KINDS:
            self.assertIs(is_line(kind, ("a", "b", 0, 1)), True)
            self.assertIs(is_line(kind, ("a", "b", 1, 1)), False)
            self.assertIs(are_lines(kind, [("a", "b", 0, 1), ("b", "a", 0, 1), ("a", "b", 0, 1)]), True)

    def test_kind_is_checked_first(self):
        for function in (is_line, are_lines):
            check_refusals(self, function, [KIND, ("value", None, [])])


class Books(unittest.TestCase):
    def test_books(self):
        for book in (BOOK, WORDS, ("hours", []), ("bits", []), ("hours", [BOOK[1][0]] * 3)):
            self.assertIs(is_book(book), True)

    def test_no_books(self):
        for value in THINGS + WRONG_BOOKS:
            self.assertIs(is_book(value), False, value)

    def test_limits_are_the_callers(self):
        names = [letter for letter in "abcdefghijklmnopqrst"]
        lines = [(one, other, 10 ** 40, 10 ** 41) for one, other in itertools.permutations(names, 2)]
        self.assertIs(is_book(("hours", lines)), True)
        self.assertEqual(unknowns(("hours", lines)), names)

    def test_unknowns(self):
        self.assertEqual(unknowns(BOOK), ["a", "b", "c"])
        self.assertEqual(unknowns(("hours", [])), [])
        self.assertEqual(unknowns(("bits", [("b", "a2", 0, 1), ("a10", "b", 0, 1)])), ["a10", "a2", "b"])
        check_refusals(self, unknowns, [("book", BOOK, [(InvalidBook, WRONG_BOOKS)])])
        check_fresh(self, unknowns, BOOK)


class Numbers(unittest.TestCase):
    def test_numbers(self):
        for kind in KINDS:
            self.assertIs(are_numbers(kind, [], []), True)
            self.assertIs(are_numbers(kind, ["a"], []), False)
            self.assertIs(are_numbers(kind, [], [("a", 1)]), False)
            self.assertIs(are_numbers(kind, ["a", "b"], [("a", 1), ("b", 2)]), True)
            self.assertIs(are_numbers(kind, ["a", "b"], [("a", 1), ("c", 2)]), False)
            self.assertIs(are_numbers(kind, ["a", "b"], [("a", 1)]), False)
            self.assertIs(are_numbers(kind, ["a", "b"], [("b", 1), ("a", 1)]), False)
            self.assertIs(are_numbers(kind, ["a10", "a2"], [("a10", 1), ("a2", 1)]), True)
            for value in THINGS + WRONG_NUMBERS_OF[kind]:
                self.assertIs(are_numbers(kind, ["a", "b"], value), False, value)
        self.assertIs(are_numbers("hours", ["a"], [("a", -1)]), True)
        self.assertIs(are_numbers("bits", ["a"], [("a", -1)]), False)

    def test_refused(self):
        names = ("names", ["a", "b"], [(InvalidNames, WRONG_NAMES_LISTS)])
        check_refusals(self, are_numbers, [KIND, names, ("value", None, [])])


class Keeping(unittest.TestCase):
    def test_small_lines(self):
        for by in range(13):
            for ahead in range(-5, 6) if by == 0 else range(by):
                line = ("p", "o", ahead, by)
                for one, other in itertools.product(range(-14, 15, 2), range(-13, 14)):
                    off = other - one - ahead
                    right = off == 0 if by == 0 else off % by == 0
                    self.assertIs(keeps("hours", line, [("o", other), ("p", one)]), right)

    def test_small_words(self):
        for by in range(9):
            for ahead in range(8 if by == 0 else 1 << by.bit_length() - 1):
                line = ("o", "p", ahead, by)
                for one, other in itertools.product(range(16), repeat=2):
                    right = goes_into("bits", by, other ^ one ^ ahead)
                    self.assertIs(keeps("bits", line, [("o", one), ("p", other)]), right)

    def test_by_one_says_nothing(self):
        for kind in KINDS:
            for one, other in itertools.product(range(5), repeat=2):
                self.assertIs(keeps(kind, ("a", "b", 0, 1), [("a", one), ("b", other)]), True)

    def test_further_names(self):
        self.assertIs(keeps("hours", ("b", "d", 1, 5), [("a", 9), ("b", -2), ("c", 8), ("d", -1), ("e", 3)]), True)
        self.assertIs(keeps("hours", ("b", "d", 1, 5), [("a", 9), ("b", -2), ("c", 8), ("d", 0), ("e", 3)]), False)
        self.assertEqual(unkept(BOOK, [("a", 0), ("b", 8), ("bb", 1), ("c", 10)]), [0, 1])

    def test_drawn(self):
        rng = random.Random(11)
        for kind in KINDS:
            for _ in range(200):
                book = drawn_book(rng, kind, ["a", "b", "c", "d"], 6)
                names = unknowns(book)
                numbers = [(name, rng.randint(-9 if kind == "hours" else 0, 9)) for name in names]
                told = dict(numbers)
                wrong = [at for at, line in enumerate(book[1]) if not keeps_line(kind, line, told)]
                self.assertEqual(unkept(book, numbers), wrong)
                self.assertIs(is_keeping(book, numbers), wrong == [])
                self.assertIs(is_keeping(book, numbers + [("z", 1)]), False)
                self.assertIs(is_keeping(book, numbers[1:]), not numbers and wrong == [])
                ahead = rng.randint(-99 if kind == "hours" else 0, 99)
                farther = moved(kind, numbers, ahead)
                self.assertEqual(farther, [(name, sum_of(kind, number, ahead)) for name, number in numbers])
                self.assertEqual(unkept(book, farther), wrong)

    def test_no_lines(self):
        self.assertIs(is_keeping(("hours", []), []), True)
        self.assertIs(is_keeping(("hours", []), [("a", 1)]), False)
        self.assertEqual(unkept(("hours", []), [("a", 1)]), [])
        self.assertEqual(moved("hours", [], 4), [])

    def test_any_value_may_be_judged(self):
        for value in THINGS + WRONG_NUMBERS_OF["hours"]:
            self.assertIs(is_keeping(("hours", [("a", "b", 1, 2)]), value), False, value)
        for value in WRONG_NUMBERS_OF["bits"]:
            self.assertIs(is_keeping(("bits", [("a", "b", 0, 1)]), value), False, value)

    def test_refused(self):
        for kind in KINDS:
            numbers = [(InvalidNumbers, WRONG_NUMBERS_OF[kind] + [[("a", 1)], [("b", 1)], [("c", 1), ("d", 1)], []])]
            kinds = ("kind", kind, [(InvalidKind, WRONG_KINDS)])
            told = ("numbers", [("a", 1), ("b", 2)], numbers)
            check_refusals(self, keeps, [kinds, ("line", ("a", "b", 0, 1), [(InvalidLine, WRONG_LINES[kind])]), told])
            book = (kind, [("a", "b", 0, 1)])
            check_refusals(self, unkept, [("book", book, [(InvalidBook, WRONG_BOOKS)]), told])
            check_refusals(self, is_keeping, [("book", book, [(InvalidBook, WRONG_BOOKS)]), ("value", None, [])])
            check_refusals(self, moved, [kinds, ("numbers", [("a", 1)], [(InvalidNumbers, WRONG_NUMBERS_OF[kind])]),
                                         ("ahead", 3, [(InvalidNumber, WRONG_NUMBERS[kind])])])

    def test_fresh(self):
        numbers = [("a", 0), ("b", 8), ("c", 10)]
        check_fresh(self, unkept, BOOK, numbers)
        check_fresh(self, moved, "hours", numbers, 0)
        check_fresh(self, moved, "bits", numbers, 0)
        check_fresh(self, keeps, "hours", BOOK[1][0], numbers)


class PlainLines(unittest.TestCase):
    def test_any_ahead(self):
        for by in range(10):
            for ahead in range(-25, 26):
                line = plain_line("hours", "a", "b", ahead, by)
                self.assertEqual(line, ("a", "b", ahead if by == 0 else ahead % by, by))
                self.assertTrue(is_line("hours", line))
            for ahead in range(64):
                line = plain_line("bits", "b", "a", ahead, by)
                self.assertTrue(is_line("bits", line))
                self.assertTrue(goes_into("bits", by, line[2] ^ ahead))
                self.assertEqual(line[:2] + line[3:], ("b", "a", by))

    def test_kept_by_the_same_numbers(self):
        rng = random.Random(2)
        for kind in KINDS:
            for _ in range(300):
                ahead, by = rng.randrange(100), rng.randrange(12)
                one, other = rng.randrange(60), rng.randrange(60)
                kept = goes_into(kind, by, difference(kind, difference(kind, other, one), ahead))
                line = plain_line(kind, "x", "y", ahead, by)
                self.assertIs(keeps(kind, line, [("x", one), ("y", other)]), kept)

    def test_great(self):
        self.assertEqual(plain_line("hours", "a", "b", -1, 10 ** 30 - 1), ("a", "b", 10 ** 30 - 2, 10 ** 30 - 1))
        self.assertEqual(plain_line("bits", "a", "b", 2 ** 99, 2 ** 98), ("a", "b", 0, 2 ** 98))

    def test_refused(self):
        for kind in KINDS:
            check_refusals(self, plain_line, [
                ("kind", kind, [(InvalidKind, WRONG_KINDS)]),
                ("one", "a", [(InvalidName, WRONG_NAMES)]),
                ("other", "b", [(InvalidName, WRONG_NAMES + ["a"])]),
                ("ahead", 7, [(InvalidNumber, WRONG_NUMBERS[kind])]),
                ("by", 5, [(InvalidNumber, NO_COUNTS)]),
            ])


class Limits(unittest.TestCase):
    def test_great_books(self):
        rng = random.Random(1)
        begun = time.time()
        for kind in KINDS:
            book = great_book(rng, kind, 6)
            self.assertEqual(unknowns(book), great_names(12))
            numbers = [(name, great_number(rng, kind)) for name in great_names(12)]
            told = dict(numbers)
            wrong = [at for at, line in enumerate(book[1]) if not keeps_line(kind, line, told)]
            self.assertEqual(unkept(book, numbers), wrong)
            self.assertIs(is_keeping(book, numbers), not wrong)
        self.assertLess(time.time() - begun, 5)

    def test_same_answers(self):
        rng = random.Random(5)
        line = drawn_line(rng, "hours", ["a", "b"], [4])
        self.assertEqual(is_line("hours", line), is_line("hours", tuple(line)))


if __name__ == "__main__":
    unittest.main()
