"""Closed books: the strongest lines that follow, and what follows of a line."""

from hourrings.books import check_book, check_line, check_two_names, lines_unkept, names_in, numbers_of
from hourrings.errors import AtOdds
from hourrings.kinds import common_multiple, has_factor, minus, plus, rest_by
from hourrings.rests import NOTHING, join, meet, meet_all, rests_agree, turn


def tell_pair(kind, table, one, other, told):
    """Adds what is told of two names to a table, both ways; returns whether it agrees with the table."""
    met = meet(kind, table[(one, other)], told)
    if met is None:
        return False
    table[(one, other)] = met
    table[(other, one)] = turn(kind, met)
    return True


def tell_through(kind, table, names, mid):
    """Adds to a table what is told of each two names through one name; returns whether all agrees."""
    ends = [name for name in names if name != mid and table[(name, mid)][1] != 1]
    for at, one in enumerate(ends):
        for other in ends[at + 1:]:
            told = join(kind, table[(one, mid)], table[(mid, other)])
            if not tell_pair(kind, table, one, other, told):
                return False
    return True


def blank_table(names):
    """The table in which nothing is told of any two names."""
    return {(one, other): NOTHING for one in names for other in names if one != other}


def told_beside(kind, table, lines):
    """A table with what further lines tell of their two names by themselves, None if this does not agree with it."""
    grown = {pair: table[pair] for pair in table}
    for one, other, ahead, by in lines:
        if not tell_pair(kind, grown, one, other, (ahead, by)):
            return None
    return grown


def told_table(kind, lines):
    """What the lines tell of each two names by themselves, None if two of the lines do not agree."""
    return told_beside(kind, blank_table(names_in(lines)), lines)


def closed_among(kind, table, names):
    """The closed rests of what a table of told lines tells among names alone, None if this is at odds."""
    among = {(one, other): table[(one, other)] for one in names for other in names if one != other}
    for mid in names:
        if not tell_through(kind, among, names, mid):
            return None
    return among


def closed_table(kind, lines):
    """The rests of the closed lines, by their two names, either way about; None if the lines are at odds."""
    table = told_table(kind, lines)
    if table is None:
        return None
    return closed_among(kind, table, names_in(lines))


def table_with(kind, table, line):
    """The closed table of the lines of another one and of a line more, None if these are at odds."""
    one, other = line[:2]
    names = sorted({name for pair in list(table) + [(one, other)] for name in pair})
    grown = {(low, high): table.get((low, high), NOTHING) for low in names for high in names if low != high}
    # The new line can be at odds with the closed line of its own names alone, and each way takes it once.
    if not tell_pair(kind, grown, one, other, line[2:]):
        return None
    for mid in (one, other):
        tell_through(kind, grown, names, mid)
    return grown


def kept_table(book):
    """The closed table of a book that can be kept."""
    table = closed_table(book[0], book[1])
    if table is None:
        raise AtOdds(book)
    return table


def lines_of_table(table, names):
    """The closed lines of each two of some names."""
    pairs = [(one, other) for at, one in enumerate(names) for other in names[at + 1:]]
    return [(one, other, *table[(one, other)]) for one, other in pairs if table[(one, other)][1] != 1]


def gone_through(kind, table, names):
    """What a table of told lines tells through names, one after another; None if no numbers keep all of it.

    Of the last two names it is what their closed line tells.
    """
    through = {pair: table[pair] for pair in table}
    # A name that was gone through is not needed any more: so each further one has fewer pairs about it.
    for at, mid in enumerate(names):
        if not tell_through(kind, through, names[at:], mid):
            return None
    return through


def is_kept_together(kind, lines):
    """Whether some numbers keep all lines."""
    table = told_table(kind, lines)
    return table is not None and gone_through(kind, table, names_in(lines)) is not None


def rest_told(kind, table, numbers, name):
    """The rest that numbers of others tell of a name by a closed table, None if no number keeps all of it."""
    told = []
    for other, number in numbers:
        ahead, by = table.get((other, name), NOTHING)
        told.append((rest_by(kind, plus(kind, number, ahead), by), by))
    return meet_all(kind, told)


def given_on(kind, names, table, numbers):
    """Told numbers, and those of the other names, given one by one, that keep all rests of a closed table."""
    told = dict(numbers)
    given = list(numbers)
    for name in names:
        if name not in told:
            given.append((name, rest_told(kind, table, given, name)[0]))
    return sorted(given)


def numbers_keeping(kind, lines, names):
    """Numbers of some names, all those of the lines among them, that keep the lines; None if there are none."""
    table = closed_table(kind, lines)
    if table is None:
        return None
    return given_on(kind, names, table, [])


def share_of(kind, table, others, name):
    """The multiple of the `by` of the closed rests from some others to a name, 1 if there are none."""
    share = 1
    for other in others:
        share = common_multiple(kind, share, table.get((other, name), NOTHING)[1])
    return share


def line_follows(kind, line, told):
    """Whether a line follows from the closed rest of its two names."""
    return has_factor(kind, told[1], line[3]) and has_factor(kind, minus(kind, told[0], line[2]), line[3])


def not_following(kind, table, lines):
    """The numbers, ascending, of those lines that do not follow from a closed table."""
    return [at for at, line in enumerate(lines) if not line_follows(kind, line, table.get(line[:2], NOTHING))]


def news_of_line(kind, line, told):
    if not rests_agree(kind, line[2:], told):
        return "never"
    return "sure" if line_follows(kind, line, told) else "open"


def closed(book):
    check_book(book)
    return lines_of_table(kept_table(book), names_in(book[1]))


def closed_line(book, one, other):
    check_book(book)
    check_two_names(one, other)
    return one, other, *kept_table(book).get((one, other), NOTHING)


def closed_with(book, line):
    check_book(book)
    kind, lines = book
    check_line(kind, line)
    table = table_with(kind, kept_table(book), line)
    if table is None:
        return None
    return lines_of_table(table, names_in(lines + [line]))


def follows(book, line):
    check_book(book)
    check_line(book[0], line)
    return line_follows(book[0], line, kept_table(book).get(line[:2], NOTHING))


def news_of(book, line):
    check_book(book)
    check_line(book[0], line)
    return news_of_line(book[0], line, kept_table(book).get(line[:2], NOTHING))


def numbers_without(kind, lines, line, told):
    """Numbers of all names that keep the lines but not one line, None if it follows."""
    if line_follows(kind, line, told):
        return None
    one, other, ahead, by = line
    off = told[0]
    if has_factor(kind, minus(kind, off, ahead), by):
        off = plus(kind, off, told[1])
    return numbers_keeping(kind, lines + [(one, other, off, 0)], names_in(lines + [line]))


def two_rows(book, line):
    check_book(book)
    kind, lines = book
    check_line(kind, line)
    told = kept_table(book).get(line[:2], NOTHING)
    both = lines + [line]
    return numbers_keeping(kind, both, names_in(both)), numbers_without(kind, lines, line, told)


def are_two_rows(book, line, value):
    check_book(book)
    kind, lines = book
    check_line(kind, line)
    news = news_of_line(kind, line, kept_table(book).get(line[:2], NOTHING))
    if not isinstance(value, tuple) or len(value) != 2:
        return False
    names = names_in(lines + [line])
    for row in value:
        if row is not None and (not numbers_of(kind, names, row) or lines_unkept(kind, lines, row)):
            return False
    keeping, without = value
    if (keeping is None) != (news == "never") or (without is None) != (news == "sure"):
        return False
    if keeping is not None and lines_unkept(kind, [line], keeping):
        return False
    return without is None or lines_unkept(kind, [line], without) == [0]
