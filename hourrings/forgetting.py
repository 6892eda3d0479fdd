"""Forgetting: what a book tells of some of its unknowns alone, and what books tell one another."""

from hourrings.books import check_book, check_names, check_two_books, names_in
from hourrings.closed import kept_table, lines_of_table, not_following


def shared_names(one, other):
    names = names_in(other[1])
    return [name for name in names_in(one[1]) if name in names]


def news_told(one, other):
    """What both books tell of unknowns of the other one, and the other one by itself does not."""
    check_two_books(one, other)
    kind, lines = other
    kept_table(one)
    known = kept_table(other)
    told = lines_of_table(kept_table((kind, one[1] + lines)), names_in(lines))
    return [told[at] for at in not_following(kind, known, told)]


def told_of(book, names):
    check_book(book)
    check_names(names)
    kind, lines = book
    return kind, lines_of_table(kept_table(book), [name for name in names_in(lines) if name in names])


def forgotten(book, names):
    check_book(book)
    check_names(names)
    kind, lines = book
    return kind, lines_of_table(kept_table(book), [name for name in names_in(lines) if name not in names])


def shared_unknowns(one, other):
    check_two_books(one, other)
    return shared_names(one, other)


def news(one, other):
    return news_told(one, other)


def is_silent(one, other):
    return not news_told(one, other)
