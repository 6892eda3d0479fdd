"""Rows of a period: how many keep a book, which of them has which number, and which has which told numbers."""

from hourrings.books import check_all_unknowns, check_book, line_kept, names_in
from hourrings.closed import closed_table, rest_told, share_of
from hourrings.errors import InvalidPeriod, InvalidRow, TooMany
from hourrings.given import check_told, denied
from hourrings.kinds import check_count, common_multiple, has_factor, is_count, is_whole, rest_by
from hourrings.rests import numbered_count

MOST_ROWS = 2000


def check_period(book, period):
    check_book(book)
    kind, lines = book
    if not is_whole(period) or period <= 0:
        raise InvalidPeriod(period)
    if not all([line[3] == 0 or has_factor(kind, period, line[3]) for line in lines]):
        raise InvalidPeriod(period)


def lines_by_rests(kind, lines, period):
    """The lines with the period in the place of each `by` 0: rows keep these."""
    exact = [(one, other, rest_by(kind, ahead, period), period) for one, other, ahead, by in lines if by == 0]
    return [line for line in lines if line[3] != 0] + exact


def table_of_rows(book, period):
    """The closed table of what rows keep, None if no row does."""
    return closed_table(book[0], lines_by_rests(book[0], book[1], period))


def is_rest(kind, period, value):
    """Whether a value is a rest of the period."""
    if not is_count(value):
        return False
    if kind == "hours":
        return value < period
    return value.bit_length() < period.bit_length()


def row_fits(book, period, value):
    """Whether a value is a row that keeps the book."""
    kind, lines = book
    names = names_in(lines)
    if not isinstance(value, list) or len(value) != len(names):
        return False
    if not all([is_rest(kind, period, number) for number in value]):
        return False
    told = dict(zip(names, value))
    return all([line_kept(kind, line, told) for line in lines_by_rests(kind, lines, period)])


def check_row(book, period, row):
    check_period(book, period)
    if not row_fits(book, period, row):
        raise InvalidRow(row)


def choices_by(kind, period, by):
    """How many rests of the period keep a rest by one of its divisors."""
    if kind == "hours":
        return period // by
    return 1 << (period.bit_length() - by.bit_length())


def choices_in_turn(kind, period, table, ahead, names):
    """How many choices names have, one after another, behind names that are ahead of them all."""
    shares = [share_of(kind, table, ahead + names[:at], name) for at, name in enumerate(names)]
    return [choices_by(kind, period, by) for by in shares]


def multiplied(counts):
    total = 1
    for count in counts:
        total = total * count
    return total


def figures_of(number, bases):
    """The figures of a number, each of a base of its own, the highest one first; None if it has more figures."""
    figures = []
    for base in reversed(bases):
        number, figure = divmod(number, base)
        figures.append(figure)
    return figures[::-1] if number == 0 else None


def row_of_figures(kind, names, table, figures):
    """The row in which each name has the choice with its number among those that those ahead leave it."""
    given = []
    for name, figure in zip(names, figures):
        given.append((name, numbered_count(kind, rest_told(kind, table, given, name), figure)))
    return [item[1] for item in given]


def row_at(book, period, number):
    """The row that keeps the book and has so many ahead of it, None if there is none."""
    kind, lines = book
    names = names_in(lines)
    table = table_of_rows(book, period)
    if table is None:
        return None
    figures = figures_of(number, choices_in_turn(kind, period, table, [], names))
    if figures is None:
        return None
    return row_of_figures(kind, names, table, figures)


def place_of(book, period, row):
    """How many rows that keep the book are ahead of one of them."""
    kind, lines = book
    names = names_in(lines)
    table = table_of_rows(book, period)
    place = 0
    for at, name in enumerate(names):
        by = share_of(kind, table, names[:at], name)
        # The numbers that a name can have are by this: so what is above the rest tells which of them it is.
        figure = row[at] // by if kind == "hours" else row[at] >> (by.bit_length() - 1)
        place = place * choices_by(kind, period, by) + figure
    return place


def least_period(book):
    check_book(book)
    kind, lines = book
    period = 1
    for line in lines:
        if line[3] != 0:
            period = common_multiple(kind, period, line[3])
    return period


def keeps_row(book, period, value):
    check_period(book, period)
    return row_fits(book, period, value)


def how_many_rows(book, period):
    check_period(book, period)
    table = table_of_rows(book, period)
    if table is None:
        return 0
    return multiplied(choices_in_turn(book[0], period, table, [], names_in(book[1])))


def choices_left(book, period, names):
    check_period(book, period)
    check_all_unknowns(book, names)
    table = table_of_rows(book, period)
    if table is None:
        return []
    return choices_in_turn(book[0], period, table, [], names)


def row_numbered(book, period, number):
    check_period(book, period)
    check_count(number)
    return row_at(book, period, number)


def number_of_row(book, period, row):
    check_row(book, period, row)
    return place_of(book, period, row)


def all_rows(book, period):
    check_period(book, period)
    kind, lines = book
    names = names_in(lines)
    table = table_of_rows(book, period)
    if table is None:
        return []
    choices = choices_in_turn(kind, period, table, [], names)
    many = multiplied(choices)
    if many > MOST_ROWS:
        raise TooMany(many)
    return [row_of_figures(kind, names, table, figures_of(number, choices)) for number in range(many)]


def how_many_with(book, period, numbers):
    check_period(book, period)
    check_told(book, numbers)
    kind, lines = book
    table = table_of_rows(book, period)
    rests = [(name, rest_by(kind, number, period)) for name, number in numbers]
    if table is None or denied(kind, table, rests) is not None:
        return 0
    told = [name for name, _ in numbers]
    left = [name for name in names_in(lines) if name not in told]
    return multiplied(choices_in_turn(kind, period, table, told, left))


def next_row(book, period, row):
    check_row(book, period, row)
    return row_at(book, period, place_of(book, period, row) + 1)
