"""Numbers given one by one: what told numbers can go on to, and what they tell of others."""

from hourrings.books import check_book, check_numbers, is_name, line_kept, names_in
from hourrings.closed import given_on, kept_table, lines_of_table, rest_told
from hourrings.errors import InvalidName, InvalidNumbers


def check_told(book, numbers):
    """Refuses what does not tell numbers of some unknowns of the book."""
    check_book(book)
    check_numbers(book[0], numbers, [])
    names = names_in(book[1])
    if not all([name in names for name, _ in numbers]):
        raise InvalidNumbers(numbers)


def denied(kind, table, numbers):
    """The first closed line that told numbers do not keep, None if they keep all."""
    told = dict(numbers)
    for line in lines_of_table(table, [name for name, _ in numbers]):
        if not line_kept(kind, line, told):
            return line
    return None


def first_numbers(book):
    check_book(book)
    return given_on(book[0], names_in(book[1]), kept_table(book), [])


def goes_on(book, numbers):
    check_told(book, numbers)
    return denied(book[0], kept_table(book), numbers) is None


def first_denied(book, numbers):
    check_told(book, numbers)
    return denied(book[0], kept_table(book), numbers)


def first_with(book, numbers):
    check_told(book, numbers)
    kind, lines = book
    table = kept_table(book)
    if denied(kind, table, numbers) is not None:
        return None
    return given_on(kind, names_in(lines), table, numbers)


def rest_given(book, numbers, name):
    check_told(book, numbers)
    kind, lines = book
    if not is_name(name) or name not in names_in(lines) or name in dict(numbers):
        raise InvalidName(name)
    table = kept_table(book)
    if denied(kind, table, numbers) is not None:
        return None
    return rest_told(kind, table, numbers, name)
