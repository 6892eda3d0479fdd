"""[78]: torn texts, and books that are joined."""

import random
import time
import unittest

from hourrings.books import is_book, is_keeping, unknowns
from hourrings.errors import HourError, InvalidText, Unlike
from hourrings.rings import can_be_kept
from hourrings.texts import book_of_text, text_of_book, wrong_at
from hourrings.torn import good_part, joined_books
from tests.trying import (BOOKS, KINDS, ODD, THINGS, check_fresh, check_refusals, drawn_book, great_book,
                          names_of, told_book, tried)

SIGNS = "abn019- \n\tyis headofby+_A~"
GREAT = "hours\nb is 7 ahead of a by 12\nc is -3 ahead of b\na1 is 0 ahead of zz by 1\n"


def read(text):
    try:
        return book_of_text(text)
    except HourError:
        return None


def tried_part(text):
    """The longest beginning of a text that is the text of a book: all are tried."""
    for many in reversed(range(len(text) + 1)):
        book = read(text[:many])
        if book is not None:
            return book, many
    return None, 0


class Torn(unittest.TestCase):
    def check(self, text):
        answer = check_fresh(self, good_part, text)
        self.assertIsInstance(answer, tuple)
        self.assertEqual(answer, tried_part(text), text)
        if answer[0] is not None:
            self.assertIs(is_book(answer[0]), True)
            self.assertEqual(text_of_book(answer[0]), text[:answer[1]])
        self.assertEqual(answer[1] == len(text) > 0, wrong_at(text) is None)
        return answer

    def test_cut_at_each_place(self):
        rng = random.Random(271)
        for kind in KINDS:
            for _ in range(8):
                book = drawn_book(rng, kind, ["a", "b1", "zzzzzz999"], 4)
                text = text_of_book(book)
                for many in range(len(text) + 1):
                    answer = self.check(text[:many])
                    # The line in which it is cut, and those behind it, are lost alone.
                    whole = text[:many].count("\n")
                    self.assertEqual(answer[0], (kind, book[1][:whole - 1]) if whole else None)
                for many in range(0, len(text), 7):
                    self.check(text[many:])

    def test_bent(self):
        rng = random.Random(272)
        seen = []
        for kind in KINDS:
            for _ in range(3):
                text = text_of_book(drawn_book(rng, kind, ["a", "b1", "c"], 4))
                for at in range(len(text)):
                    for sign in rng.sample(SIGNS, 2):
                        for bent in (text[:at] + sign + text[at + 1:], text[:at] + sign + text[at:], text[:at] +
                                     text[at + 1:], text[:at] + text[at:].replace("\n", "")):
                            answer = self.check(bent)
                            seen.append(answer[1] == len(bent))
                            if answer[0] is not None:
                                # What stands ahead of the bent place is read in any case.
                                self.assertGreaterEqual(answer[1], bent[:at].rfind("\n") + 1)
        self.assertGreater(min(seen.count(True), seen.count(False)), 30)

    def test_written_over(self):
        rng = random.Random(273)
        for kind in KINDS:
            one, other = [text_of_book(told_book(rng, kind, ["a", "b", "c"], 5)) for _ in range(2)]
            for many in range(0, min(len(one), len(other)), 3):
                self.check(one[:many] + other[many:])
                self.check(one[:many] + other)
                self.check(one[:many] + "\x7f\x00\u00e9")
            self.check(one + other)
            self.check(one * 2)

    def test_no_books(self):
        for text in ("", "\n", "\n\n", "hour", "hours", "bits", "hours\r\n", " hours\n", "hours \n", "Hours\n", "\nhours\n",
                     "hoursb is 7 ahead of a by 12\n", "b is 7 ahead of a by 12\n", "\t", "~", "hours\tbits\n", "a" * 6000):
            self.assertEqual(self.check(text), (None, 0))
        for text, many in (("hours\n", 6), ("bits\n", 5), ("hours\nbits\n", 6), ("bits\n\n", 5), ("hours\n\nhours\n", 6),
                           ("bits\nb is 2 ahead of a\n", 5), ("bits\nb is 10 ahead of a", 5), ("hours\n" * 900, 6),
                           ("bits\nb is 10 ahead of a\nb is 10 ahead of a by 10\n", 24), (GREAT, len(GREAT)),
                           (GREAT[:-1], GREAT[:-1].rfind("\n") + 1), (GREAT + " ", len(GREAT)), (GREAT + "\n", len(GREAT))):
            self.assertEqual(self.check(text)[1], many, text)
        figures = "hours\nb is %s ahead of a\n"
        self.assertEqual(good_part(figures % ("9" * 100))[1], 123)
        self.assertEqual(good_part(figures % ("9" * 101))[1], 6)
        self.assertEqual(good_part(figures % ("-" + "9" * 100))[1], 124)

    def test_long_texts(self):
        begun = time.time()
        rng = random.Random(274)
        for kind in KINDS:
            text = text_of_book(great_book(rng, kind, 60))
            self.assertLess(len(text), 6001)
            for many in (len(text), len(text) - 1, 3000, 1):
                self.assertEqual(good_part(text[:many])[1], text[:many].rfind("\n") + 1)
            line = "b is 0 ahead of a by 1\n"
            text = kind + "\n" + line * ((6000 - 6) // len(line))
            self.assertEqual(good_part(text)[1], len(text))
            self.assertEqual(len(good_part(text[:-1])[0][1]), (6000 - 6) // len(line) - 1)
        for text in ("9" * 6000, "hours\nb is " + "1" * 5000, "hours\n" + " " * 5000, "hours\n" + "is by " * 900 + "\n"):
            self.assertEqual(good_part(text)[1], 6 if "hours\n" in text else 0)
        self.assertLess(time.time() - begun, 5)

    def test_refused(self):
        wrong = [value for value in THINGS if not isinstance(value, str)] + [0, 1, ["hours\n"], ("hours\n",), b"hours\n",
                                                                           ("hours", []), {"hours\n": 1}]
        check_refusals(self, good_part, [("text", GREAT, [(InvalidText, wrong)])])


class Joined(unittest.TestCase):
    def test_by_trying(self):
        rng = random.Random(275)
        for kind in KINDS:
            for _ in range(30):
                one, other = [drawn_book(rng, kind, rng.choice([["a", "b"], ["b", "c"], ["a", "b", "c"]]), 3)
                              for _ in range(2)]
                answer = check_fresh(self, joined_books, one, other)
                self.assertEqual(answer, (kind, one[1] + other[1]))
                self.assertIsInstance(answer, tuple)
                names = names_of(answer[1])
                self.assertEqual(unknowns(answer), names)
                rows = tried(kind, answer[1], names, range(-6, 7) if kind == "hours" else range(8))
                for row in rows[:20]:
                    for book in (one, other):
                        told = [(name, row[name]) for name in names_of(book[1])]
                        self.assertIs(is_keeping(book, told), True)
                    self.assertIs(is_keeping(answer, sorted(row.items())), True)
                if rows:
                    self.assertIs(can_be_kept(answer), True)
            empty = (kind, [])
            self.assertEqual([joined_books(empty, empty), joined_books(empty, ODD[kind]), joined_books(ODD[kind], empty)],
                             [empty, ODD[kind], ODD[kind]])
            self.assertIsNot(joined_books(empty, ODD[kind])[1], ODD[kind][1])

    def test_refused(self):
        for kind, unlike in zip(KINDS, reversed(KINDS)):
            others = [(unlike, []), ODD[unlike]]
            check_refusals(self, joined_books, [("one", ODD[kind], BOOKS),
                                                ("other", ODD[kind], BOOKS + [(Unlike, others)])])


if __name__ == "__main__":
    unittest.main()
