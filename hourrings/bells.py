"""Bells: strikes at hours that are told by unknowns, where all can or must be at the same hour."""

from hourrings.books import check_book, names_in
from hourrings.closed import closed_table, given_on, is_kept_together, kept_table, line_follows, numbers_without
from hourrings.errors import InvalidBook, InvalidName, InvalidThings
from hourrings.kinds import common_divisor
from hourrings.rests import NOTHING
from hourrings.strikes import HOURS, thing_fits

# The hour at which the bells strike, as one more unknown: no other unknown has the empty name.
HOUR = ""


def bell_fits(names, value):
    if not isinstance(value, tuple) or len(value) != 3:
        return False
    return value[0] in names and thing_fits(value[1:])


def check_bells(book, bells):
    """Refuses what is no book of hours that can be kept with bells of it, and returns the closed table of the book."""
    check_book(book)
    kind, lines = book
    if kind != HOURS:
        raise InvalidBook(book)
    names = names_in(lines)
    if not isinstance(bells, list) or not all([bell_fits(names, bell) for bell in bells]):
        raise InvalidThings(bells)
    return kept_table(book)


def lines_with_hour(lines, bells):
    return lines + [(name, HOUR, ahead % every, every) for name, ahead, every in bells]


def line_of_two(one, other):
    """The line that numbers of their unknowns keep if two bells strike together, and as such alone."""
    by = common_divisor(HOURS, one[2], other[2])
    return one[0], other[0], (one[1] - other[1]) % by, by


def must_both(table, one, other):
    """Whether two bells strike together for all numbers that keep a closed table."""
    line = line_of_two(one, other)
    # Of an unknown and itself it is told that they are equal.
    told = (0, 0) if line[0] == line[1] else table.get(line[:2], NOTHING)
    return line_follows(HOURS, line, told)


def first_missing(table, bells):
    """The first two numbers of bells that need not strike together, None if all must."""
    for at, one in enumerate(bells):
        for other in range(at + 1, len(bells)):
            if not must_both(table, one, bells[other]):
                return at, other
    return None


def can_strike(book, bells):
    check_bells(book, bells)
    return is_kept_together(HOURS, lines_with_hour(book[1], bells))


def hour_line(book, bells, name):
    check_bells(book, bells)
    lines = book[1]
    if name not in names_in(lines):
        raise InvalidName(name)
    table = closed_table(HOURS, lines_with_hour(lines, bells))
    return None if table is None else table.get((name, HOUR), NOTHING)


def must_strike(book, bells):
    return first_missing(check_bells(book, bells), bells) is None


def may_miss(book, bells):
    return first_missing(check_bells(book, bells), bells)


def missing(book, bells):
    table = check_bells(book, bells)
    lines = book[1]
    two = first_missing(table, bells)
    if two is None:
        return None
    line = line_of_two(bells[two[0]], bells[two[1]])
    if line[0] == line[1]:
        # Two bells of one unknown that need not strike together never do.
        return given_on(HOURS, names_in(lines), table, [])
    return numbers_without(HOURS, lines, line, table.get(line[:2], NOTHING))
