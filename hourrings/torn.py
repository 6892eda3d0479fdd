"""Torn texts: what can still be read of them, and books that are joined."""

from hourrings.books import check_two_books
from hourrings.errors import InvalidText
from hourrings.texts import bad_line, book_in_text


def good_part(text):
    if not isinstance(text, str):
        raise InvalidText(text)
    bad = bad_line(text)
    if bad is None:
        return book_in_text(text), len(text)
    if bad == 0:
        return None, 0
    # All lines ahead of the bad one stand in the text of a book, each with the sign that ends it.
    good = "".join([piece + "\n" for piece in text.split("\n")[:bad]])
    return book_in_text(good), len(good)


def joined_books(one, other):
    check_two_books(one, other)
    return one[0], one[1] + other[1]
