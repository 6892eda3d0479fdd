"""Texts of lines and of books, there and back."""

from hourrings.books import check_book, check_line, line_fits
from hourrings.errors import InvalidText
from hourrings.kinds import check_kind, is_kind

MOST_FIGURES = 100


def number_text(kind, number):
    if kind == "hours":
        return str(number)
    return f"{number:b}"


def number_of_text(kind, text):
    """The number that some figures tell, with noughts ahead or not; None if there is none."""
    figures, base = text, 2
    if kind == "hours":
        figures, base = text.removeprefix("-"), 10
    if not 1 <= len(figures) <= MOST_FIGURES:
        return None
    if not all([figure in "0123456789"[:base] for figure in figures]):
        return None
    return int(text, base)


def line_text(kind, line):
    one, other, ahead, by = line
    text = f"{other} is {number_text(kind, ahead)} ahead of {one}"
    if by == 0:
        return text
    return f"{text} by {number_text(kind, by)}"


def line_in_text(kind, text):
    """The line of which this is the text, None if there is none."""
    words = text.split(" ")
    if len(words) == 6:
        words = words + ["by", "0"]
    if len(words) != 8:
        return None
    line = (words[5], words[0], number_of_text(kind, words[2]), number_of_text(kind, words[7]))
    # A line can be told by just one text: so nothing but this text itself needs to be compared.
    if not line_fits(kind, line) or line_text(kind, line) != text:
        return None
    return line


def bad_line(text):
    """The number of the first line that cannot stand in the text of a book, None if there is none."""
    pieces = text.split("\n")
    ended, left = pieces[:-1], pieces[-1]
    for at, piece in enumerate(ended):
        if at == 0 and not is_kind(piece) or at > 0 and line_in_text(ended[0], piece) is None:
            return at
    if left != "" or not ended:
        return len(ended)
    return None


def book_text(kind, lines):
    return "".join([piece + "\n" for piece in [kind] + [line_text(kind, line) for line in lines]])


def book_in_text(text):
    """The book whose text this is."""
    kind, *pieces = text.split("\n")[:-1]
    return kind, [line_in_text(kind, piece) for piece in pieces]


def text_of_line(kind, line):
    check_kind(kind)
    check_line(kind, line)
    return line_text(kind, line)


def line_of_text(kind, text):
    check_kind(kind)
    line = None
    if isinstance(text, str):
        line = line_in_text(kind, text)
    if line is None:
        raise InvalidText(text)
    return line


def text_of_book(book):
    check_book(book)
    return book_text(book[0], book[1])


def book_of_text(text):
    if not isinstance(text, str) or bad_line(text) is not None:
        raise InvalidText(text)
    return book_in_text(text)


def wrong_at(text):
    if not isinstance(text, str):
        raise InvalidText(text)
    return bad_line(text)
