"""[7]: texts of lines and of books."""

import itertools
import random
import time
import unittest

from hourrings.errors import InvalidBook, InvalidKind, InvalidLine, InvalidText
from hourrings.texts import book_of_text, line_of_text, text_of_book, text_of_line, wrong_at
from tests.trying import (KINDS, WRONG_BOOKS, WRONG_KINDS, WRONG_LINES, check_fresh, check_refusals, drawn_book,
                          great_book)

BOOK = ("hours", [("a", "b", 7, 12), ("b", "c", 3, 0), ("a", "c", 2, 4)])
TEXT = "hours\nb is 7 ahead of a by 12\nc is 3 ahead of b\nc is 2 ahead of a by 4\n"
SIGNS = "0123456789 abyhz-+_\n\t.AB"
NO_STRINGS = [None, True, 0, b"hours\n", [TEXT], (TEXT,), {}, [], (), ("hours", []), InvalidText("hours\n")]
NO_LINE_TEXTS = [
    "", " ", "\n", "b is 7 ahead of a by 12\n", " b is 7 ahead of a by 12", "b is 7 ahead of a by 12 ",
    "b is 7 ahead of a by", "b is 7 ahead of a by ", "b is  7 ahead of a by 12", "b is 7 ahead of a by 0",
    "b is 07 ahead of a by 12", "b is 7 ahead of a by 012", "b is +7 ahead of a by 12", "b is -7 ahead of a by 12",
    "b is 12 ahead of a by 12", "b is 7 ahead of b by 12", "b is 7 ahead of a of 12", "b are 7 ahead of a by 12",
    "b is 7 after of a by 12", "b is 7 ahead a by 12", "b is 7 ahead of a by -12", "b is 7_0 ahead of a",
    "b is -0 ahead of a", "b is 00 ahead of a", "b is - ahead of a", "b is --7 ahead of a", "b is 7- ahead of a",
    "B is 7 ahead of a", "b is 7 ahead of a00", "b is seven ahead of a", "b is 7 ahead of a by 12 by 12",
    "b\tis\t7\tahead\tof\ta", "b is \u0667 ahead of a", "b is \u00b2 ahead of a", "is 7 ahead of a", "b is 7 ahead of",
    "b is 7 ahead of a by 12 so", "hours", "0b is 7 ahead of a", "b is 0x7 ahead of a", "b is 7. ahead of a",
]


class LinesThereAndBack(unittest.TestCase):
    def test_all_small(self):
        for kind in KINDS:
            for ahead, by in itertools.product(range(17), range(17)):
                fits = by == 0 or (ahead < by if kind == "hours" else ahead.bit_length() < by.bit_length())
                if not fits:
                    continue
                figures = str if kind == "hours" else "{:b}".format
                text = f"y9 is {figures(ahead)} ahead of x" + ("" if by == 0 else f" by {figures(by)}")
                line = ("x", "y9", ahead, by)
                self.assertEqual(text_of_line(kind, line), text)
                self.assertEqual(line_of_text(kind, text), line)

    def test_below_nought(self):
        self.assertEqual(text_of_line("hours", ("a", "b", -12, 0)), "b is -12 ahead of a")
        self.assertEqual(line_of_text("hours", "b is -12 ahead of a"), ("a", "b", -12, 0))
        self.assertRaises(InvalidText, line_of_text, "bits", "b is -1 ahead of a")

    def test_no_line(self):
        for text in NO_LINE_TEXTS:
            self.assertRaises(InvalidText, line_of_text, "hours", text)
        for text in ("b is 2 ahead of a", "b is 12 ahead of a", "b is 01 ahead of a", "b is 11 ahead of a by 11",
                     "b is 100 ahead of a by 11", "b is 0b1 ahead of a", "b is 1 ahead of a by 0"):
            self.assertRaises(InvalidText, line_of_text, "bits", text)

    def test_kinds_of_a_text(self):
        self.assertEqual(line_of_text("hours", "b is 10 ahead of a by 101"), ("a", "b", 10, 101))
        self.assertEqual(line_of_text("bits", "b is 10 ahead of a by 101"), ("a", "b", 2, 5))

    def test_a_hundred_figures(self):
        for figures in ("9" * 100, "1" + "0" * 99):
            self.assertEqual(line_of_text("hours", f"b is {figures} ahead of a"), ("a", "b", int(figures), 0))
            self.assertEqual(line_of_text("hours", f"b is -{figures} ahead of a"), ("a", "b", -int(figures), 0))
            self.assertEqual(line_of_text("hours", f"b is 1 ahead of a by {figures}"), ("a", "b", 1, int(figures)))
            for longer in (figures + "0", figures + "1"):
                for text in ("b is {} ahead of a", "b is -{} ahead of a", "b is 1 ahead of a by {}"):
                    self.assertRaises(InvalidText, line_of_text, "hours", text.format(longer))
        bits = "1" + "01" * 49 + "1"
        self.assertEqual(line_of_text("bits", f"b is {bits} ahead of a"), ("a", "b", int(bits, 2), 0))
        self.assertEqual(line_of_text("bits", f"b is 1 ahead of a by {bits}"), ("a", "b", 1, int(bits, 2)))
        self.assertRaises(InvalidText, line_of_text, "bits", f"b is {bits}0 ahead of a")
        self.assertRaises(InvalidText, line_of_text, "bits", f"b is 1 ahead of a by {bits}1")
        self.assertEqual(wrong_at(f"hours\nb is {'9' * 100} ahead of a\nb is {'9' * 101} ahead of a\n"), 2)

    def test_bent_by_one_sign(self):
        """What is read from a bent text is what has just this text; else there is nothing."""
        for kind, line in (("hours", ("a", "b1", 7, 12)), ("hours", ("a", "b", -3, 0)), ("bits", ("a", "b", 2, 5)),
                           ("bits", ("ab", "b", 0, 1))):
            text = text_of_line(kind, line)
            bent = [text[:at] + sign + text[at + 1:] for at in range(len(text)) for sign in SIGNS]
            bent += [text[:at] + text[at + 1:] for at in range(len(text))]
            bent += [text[:at] + sign + text[at:] for at in range(len(text) + 1) for sign in SIGNS]
            others = 0
            for other in bent:
                try:
                    found = line_of_text(kind, other)
                except InvalidText as error:
                    self.assertIs(error.value, other)
                    continue
                self.assertEqual(text_of_line(kind, found), other)
                self.assertEqual(found == line, other == text)
                others += other != text
            self.assertGreater(others, 3)

    def test_refused(self):
        for kind in KINDS:
            kinds = ("kind", kind, [(InvalidKind, WRONG_KINDS)])
            check_refusals(self, text_of_line, [kinds, ("line", ("a", "b", 1, 4), [(InvalidLine, WRONG_LINES[kind])])])
            text = ("text", "b is 1 ahead of a", [(InvalidText, NO_STRINGS + NO_LINE_TEXTS)])
            check_refusals(self, line_of_text, [kinds, text])


class BooksThereAndBack(unittest.TestCase):
    def test_a_text(self):
        self.assertEqual(text_of_book(BOOK), TEXT)
        self.assertEqual(book_of_text(TEXT), BOOK)
        for kind in KINDS:
            self.assertEqual(text_of_book((kind, [])), kind + "\n")
            self.assertEqual(book_of_text(kind + "\n"), (kind, []))
            self.assertIsNone(wrong_at(kind + "\n"))

    def test_drawn(self):
        rng = random.Random(4)
        for kind in KINDS:
            for _ in range(200):
                book = drawn_book(rng, kind, ["a", "b", "c0", "dd"], 7)
                text = text_of_book(book)
                self.assertEqual(text, "\n".join([kind] + [text_of_line(kind, line) for line in book[1]]) + "\n")
                self.assertEqual(book_of_text(text), book)
                self.assertIsNone(wrong_at(text))

    def test_order_and_equal_lines_stay(self):
        book = ("bits", [("b", "a", 1, 2), ("a", "b", 1, 2), ("b", "a", 1, 2)])
        self.assertEqual(book_of_text(text_of_book(book)), book)

    def test_wrong_at_each_place(self):
        pieces = TEXT.split("\n")[:-1]
        for at in range(len(pieces)):
            for bad in ("", "b is 7 ahead of b", "hours", "b is 12 ahead of a by 12", pieces[at] + " "):
                if at == 0 and bad == "hours":
                    continue
                text = "\n".join(pieces[:at] + [bad] + pieces[at + 1:]) + "\n"
                self.assertEqual(wrong_at(text), at, text)
                self.assertEqual(wrong_at(text + "so"), at, text)
                self.assertRaises(InvalidText, book_of_text, text)

    def test_the_first_wrong_line_is_told(self):
        self.assertEqual(wrong_at("hours\nb is 1 ahead of a\nno\nneither\n"), 2)
        self.assertEqual(wrong_at("no\nneither\n"), 0)

    def test_ends(self):
        cases = {"": 0, "\n": 0, "hours": 0, "bits": 0, "hours\n\n": 1, "hours\n\n\n": 1, "\nhours\n": 0,
                 "hours\nb is 1 ahead of a": 1, "hours\nb is 1 ahead of a\n ": 2, "hours\nb is 1 ahead of a\n\n": 2,
                 "hours\nb is 1 ahead of a\nb is 1 ahead of a": 2, "hours \n": 0, "Hours\n": 0, "hours\r\n": 0,
                 "bits\nb is 7 ahead of a\n": 1, "bits\nb is 111 ahead of a\nb is 0 ahead of a by 1\nb": 3}
        for text, at in cases.items():
            self.assertEqual(wrong_at(text), at, text)
            self.assertRaises(InvalidText, book_of_text, text)

    def test_bent_by_one_sign(self):
        for text in (TEXT, "bits\nb is 10 ahead of a by 101\nc is 11 ahead of b\n"):
            bent = [text[:at] + sign + text[at + 1:] for at in range(len(text)) for sign in SIGNS]
            bent += [text[:at] + text[at + 1:] for at in range(len(text))]
            for other in bent:
                at = wrong_at(other)
                if at is None:
                    self.assertEqual(text_of_book(book_of_text(other)), other)
                else:
                    pieces = other.split("\n")
                    self.assertRaises(InvalidText, book_of_text, other)
                    # What stands ahead of the wrong line is the text of a book, with that line it is none.
                    self.assertIsNone(wrong_at("".join(piece + "\n" for piece in pieces[:at]) or "hours\n"))
                    self.assertEqual(wrong_at("".join(piece + "\n" for piece in pieces[:at + 1])[:len(other)]), at)

    def test_refused(self):
        check_refusals(self, text_of_book, [("book", BOOK, [(InvalidBook, WRONG_BOOKS)])])
        wrong = NO_STRINGS + ["", "hours", "hours\nno\n", TEXT[:-1]]
        check_refusals(self, book_of_text, [("text", TEXT, [(InvalidText, wrong)])])
        check_refusals(self, wrong_at, [("text", TEXT, [(InvalidText, NO_STRINGS)])])

    def test_fresh(self):
        check_fresh(self, book_of_text, TEXT)
        check_fresh(self, text_of_book, BOOK)

    def test_great(self):
        rng = random.Random(8)
        begun = time.time()
        for kind in KINDS:
            book = great_book(rng, kind, 1)
            self.assertEqual(book_of_text(text_of_book(book)), book)
            self.assertEqual(wrong_at(text_of_book(book)[:-1]), 40)
        for text in ("\n" * 6000, "hours\n" * 1000, "hours\n" + "b is 1 ahead of a\n" * 333, "9" * 6000, " " * 6000):
            wrong_at(text)
        self.assertLess(time.time() - begun, 5)


if __name__ == "__main__":
    unittest.main()
