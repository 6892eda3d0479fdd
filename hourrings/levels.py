"""Levels: the lines of a book whose `by` is a multiple of one number, what hangs on them, and what they tell."""

from hourrings.books import check_book, check_two_names, joined_names, lines_unkept, may_tell, names_in, numbers_of
from hourrings.closed import kept_table
from hourrings.kinds import check_count, minus, rest_by
from hourrings.rests import meet_all
from hourrings.rings import steps_from
from hourrings.shortest import divisors_of_lines, level_numbers, level_ring_of, shortest_by_level, tree_from


def check_level(book, d):
    check_book(book)
    check_count(d)


def lines_at(kind, lines, d):
    """The lines of a level, each with what it tells by the level's number alone."""
    told = [lines[number] for number in level_numbers(kind, lines, d)]
    return [(one, other, rest_by(kind, ahead, d), d) for one, other, ahead, _ in told]


def parts_at(lines):
    """The lists of names, in order, that the lines of a level lead to one another."""
    return joined_names(names_in(lines), lines)


def hanging(kind, lines, d):
    """The rests, told for names in order, that hang on the lines of a level, 0 first; None if there are none."""
    steps = steps_from(lines)
    told = []
    for names in parts_at(lines):
        reached = tree_from(kind, lines, steps, names[0])
        told.extend([(name, rest_by(kind, reached[name][1], d)) for name in names])
    told = sorted(told)
    return None if lines_unkept(kind, lines, told) else told


def are_joined(lines, one, other):
    return any([one in names and other in names for names in parts_at(lines)])


def joining(book, one, other):
    """The divisors, ascending, at whose levels two names are joined, each with the lines of this level."""
    check_book(book)
    check_two_names(one, other)
    kind, lines = book
    divisors = divisors_of_lines(kind, lines)
    kept_table(book)
    levels = [(d, lines_at(kind, lines, d)) for d in divisors]
    return [(d, told) for d, told in levels if are_joined(told, one, other)]


def divisors_of(book):
    check_book(book)
    return divisors_of_lines(book[0], book[1])


def level(book, d):
    check_level(book, d)
    return level_numbers(book[0], book[1], d)


def joined_at(book, d):
    check_level(book, d)
    return parts_at(lines_at(book[0], book[1], d))


def hung(book, d):
    check_level(book, d)
    kind, lines = book
    return hanging(kind, lines_at(kind, lines, d), d)


def is_hung(book, d, value):
    check_level(book, d)
    kind = book[0]
    lines = lines_at(kind, book[1], d)
    if not numbers_of(kind, names_in(lines), value) or not all([may_tell(kind, told, d) for _, told in value]):
        return False
    return not lines_unkept(kind, lines, value)


def first_bad_level(book):
    check_book(book)
    kind, lines = book
    for d in divisors_of_lines(kind, lines):
        if hanging(kind, lines_at(kind, lines, d), d) is None:
            return d
    return None


def level_ring(book, d):
    check_level(book, d)
    kind, lines = book
    return level_ring_of(kind, lines, d, len(names_in(lines)))


def shortest_by_levels(book):
    check_book(book)
    return shortest_by_level(book[0], book[1])


def levels_joining(book, one, other):
    return [d for d, _ in joining(book, one, other)]


def told_by_levels(book, one, other):
    levels = joining(book, one, other)
    kind = book[0]
    rests = []
    for d, lines in levels:
        told = dict(hanging(kind, lines, d))
        rests.append((rest_by(kind, minus(kind, told[other], told[one]), d), d))
    return one, other, *meet_all(kind, rests)
