"""What follows of whole books: equal books, needless lines, weights, worths and unlike numbers."""

from itertools import combinations

from hourrings.books import check_all_unknowns, check_book, check_line, check_order, check_two_books, line_kept
from hourrings.books import lines_fit, lines_unkept, names_in, numbers_of
from hourrings.closed import closed_table, kept_table, line_follows, lines_of_table, news_of_line, not_following
from hourrings.closed import rest_told, share_of, table_with
from hourrings.errors import InvalidLines
from hourrings.kinds import common_multiple, plus, split_by, times
from hourrings.rests import NOTHING


def parting_of(one, other):
    """The tuple of a place, 0 or 1, and of a line that parts two books, None if they are equal."""
    books = (one, other)
    tables = (kept_table(one), kept_table(other))
    for at in (0, 1):
        lines = lines_of_table(tables[at], names_in(books[at][1]))
        parting = not_following(one[0], tables[1 - at], lines)
        if parting:
            return at, lines[parting[0]]
    return None


def needless_lines(kind, lines):
    found = []
    for at, line in enumerate(lines):
        table = closed_table(kind, lines[:at] + lines[at + 1:])
        if line_follows(kind, line, table.get(line[:2], NOTHING)):
            found.append(at)
    return found


def all_follow(kind, lines, lot):
    """Whether all lines follow from those of a lot."""
    return not not_following(kind, closed_table(kind, [lines[at] for at in lot]), lines)


def worth_of(kind, line, told):
    """How often the `by` of a closed rest goes into the multiple of it and of the line's, 1 if it is 0."""
    if told[1] == 0:
        return 1
    return split_by(kind, common_multiple(kind, told[1], line[3]), told[1])[0]


def rigid_lists(names, table):
    """The lists of names that exact rests of a closed table join, each name in one, the first one in order."""
    found = []
    for name in names:
        fitting = [rigid for rigid in found if table.get((rigid[0], name), NOTHING)[1] == 0]
        if fitting:
            fitting[0].append(name)
        else:
            found.append([name])
    return found


def moved_together(kind, table, rigid, number):
    """The numbers of names that exact rests join, if the first one has this number."""
    first = rigid[0]
    return [(first, number)] + [(name, plus(kind, number, table[(first, name)][0])) for name in rigid[1:]]


def keeps_some(kind, lines, told):
    """Whether some numbers, by their names, keep a line both names of which they have."""
    known = [line for line in lines if line[0] in told and line[1] in told]
    return any([line_kept(kind, line, told) for line in known])


def numbers_off(kind, names, table, lines):
    """Numbers of all names that keep a closed table and none of some exact lines that do not follow from it."""
    told = {}
    for rigid in rigid_lists(names, table):
        ahead, by = rest_told(kind, table, list(told.items()), rigid[0])
        # Each line bars one number at most, so some number among one more than the lines is free.
        for many in range(len(lines) + 1):
            number = plus(kind, ahead, times(kind, by, many))
            row = dict(list(told.items()) + moved_together(kind, table, rigid, number))
            if not keeps_some(kind, lines, row):
                break
        told = row
    return sorted(told.items())


def are_equal(one, other):
    check_two_books(one, other)
    return parting_of(one, other) is None


def parting_line(one, other):
    check_two_books(one, other)
    return parting_of(one, other)


def needless(book):
    check_book(book)
    kept_table(book)
    return needless_lines(book[0], book[1])


def least_books(book):
    check_book(book)
    kept_table(book)
    kind, lines = book
    free = needless_lines(kind, lines)
    needed = [at for at in range(len(lines)) if at not in free]
    found = []
    for many in range(len(free) + 1):
        for more in combinations(free, many):
            lot = sorted(needed + list(more))
            # What has a least one within it is none itself: those with fewer lines are found first.
            greater = any([all([at in lot for at in least]) for least in found])
            if not greater and all_follow(kind, lines, lot):
                found.append(lot)
    return sorted(found)


def shares(book, order):
    check_book(book)
    check_all_unknowns(book, order)
    table = kept_table(book)
    return [share_of(book[0], table, order[:at], name) for at, name in enumerate(order)]


def weight(book):
    check_book(book)
    kind, lines = book
    table = kept_table(book)
    names = names_in(lines)
    total = 1
    for at, name in enumerate(names):
        total = times(kind, total, share_of(kind, table, names[:at], name))
    return total


def worth(book, line):
    check_book(book)
    kind = book[0]
    check_line(kind, line)
    told = kept_table(book).get(line[:2], NOTHING)
    if news_of_line(kind, line, told) == "never":
        return None
    return worth_of(kind, line, told)


def worths(book, order):
    check_book(book)
    kind, lines = book
    check_order(lines, order)
    kept_table(book)
    table = {}
    found = []
    for at in order:
        line = lines[at]
        found.append(worth_of(kind, line, table.get(line[:2], NOTHING)))
        table = table_with(kind, table, line)
    return found


def check_exact_lines(book, lines):
    check_book(book)
    if not lines_fit(book[0], lines) or not all([line[3] == 0 for line in lines]):
        raise InvalidLines(lines)


def unlike_numbers(book, lines):
    check_exact_lines(book, lines)
    kind = book[0]
    table = kept_table(book)
    if len(not_following(kind, table, lines)) < len(lines):
        return None
    return numbers_off(kind, names_in(book[1] + lines), table, lines)


def are_unlike_numbers(book, lines, value):
    check_exact_lines(book, lines)
    kind = book[0]
    kept_table(book)
    if not numbers_of(kind, names_in(book[1] + lines), value) or lines_unkept(kind, book[1], value):
        return False
    return len(lines_unkept(kind, lines, value)) == len(lines)
