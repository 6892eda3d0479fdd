"""Books as data: names, lines, lists of lines, books, and numbers of names."""

from hourrings.errors import InvalidBook, InvalidLine, InvalidName, InvalidNames, InvalidNumber, InvalidNumbers
from hourrings.errors import Unlike
from hourrings.kinds import check_count, check_kind, check_number, has_factor, is_ascending, is_count, is_kind
from hourrings.kinds import is_number, minus, plus, rest_by

LETTERS = "abcdefghijklmnopqrstuvwxyz"
FIGURES = "0123456789"


def is_name(value):
    if not isinstance(value, str):
        return False
    word = value.rstrip(FIGURES)
    count = value[len(word):]
    if not 1 <= len(word) <= 6 or not all([letter in LETTERS for letter in word]):
        return False
    return len(count) <= 3 and (count == "0" or not count.startswith("0"))


def may_tell(kind, ahead, by):
    """Whether `by` is a count and a line or a rest with it may tell this `ahead`."""
    if not is_count(by) or not is_number(kind, ahead):
        return False
    if by == 0:
        return True
    if kind == "hours":
        return 0 <= ahead < by
    return ahead.bit_length() < by.bit_length()


def line_fits(kind, value):
    if not isinstance(value, tuple) or len(value) != 4:
        return False
    one, other, ahead, by = value
    return is_name(one) and is_name(other) and one != other and may_tell(kind, ahead, by)


def lines_fit(kind, value):
    return isinstance(value, list) and all([line_fits(kind, line) for line in value])


def names_fit(value):
    return isinstance(value, list) and all([is_name(name) for name in value]) and is_ascending(value)


def number_told(kind, value):
    """Whether a value is a tuple of a name and a number of the kind."""
    return isinstance(value, tuple) and len(value) == 2 and is_name(value[0]) and is_number(kind, value[1])


def numbers_fit(kind, value):
    """Whether a value tells numbers of some names."""
    if not isinstance(value, list) or not all([number_told(kind, item) for item in value]):
        return False
    return is_ascending([item[0] for item in value])


def numbers_of(kind, names, value):
    """Whether a value tells numbers of just these names."""
    return numbers_fit(kind, value) and [item[0] for item in value] == names


def is_line(kind, value):
    check_kind(kind)
    return line_fits(kind, value)


def are_lines(kind, value):
    check_kind(kind)
    return lines_fit(kind, value)


def is_book(value):
    if not isinstance(value, tuple) or len(value) != 2:
        return False
    return is_kind(value[0]) and lines_fit(value[0], value[1])


def are_numbers(kind, names, value):
    check_kind(kind)
    check_names(names)
    return numbers_of(kind, names, value)


def check_name(name):
    if not is_name(name):
        raise InvalidName(name)


def check_two_names(one, other):
    check_name(one)
    check_name(other)
    if one == other:
        raise InvalidName(other)


def check_names(names):
    if not names_fit(names):
        raise InvalidNames(names)


def check_all_unknowns(book, names):
    """Refuses what is no list of all unknowns of a book, each once, in any order."""
    if not isinstance(names, list) or not all([is_name(name) for name in names]):
        raise InvalidNames(names)
    if sorted(names) != names_in(book[1]):
        raise InvalidNames(names)


def check_order(lines, order):
    """Refuses what is no list of the numbers of all lines, each once, in any order."""
    if not isinstance(order, list) or not all([is_count(number) for number in order]):
        raise InvalidNumber(order)
    if sorted(order) != list(range(len(lines))):
        raise InvalidNumber(order)


def check_line(kind, line):
    if not line_fits(kind, line):
        raise InvalidLine(line)


def check_book(book):
    if not is_book(book):
        raise InvalidBook(book)


def check_two_books(one, other):
    check_book(one)
    check_book(other)
    if one[0] != other[0]:
        raise Unlike(other)


def check_numbers(kind, numbers, names):
    """Refuses what does not tell numbers of some names, all of these among them."""
    if not numbers_fit(kind, numbers):
        raise InvalidNumbers(numbers)
    told = dict(numbers)
    if not all([name in told for name in names]):
        raise InvalidNumbers(numbers)


def names_in(lines):
    """The names in some lines, in order."""
    return sorted({name for line in lines for name in line[:2]})


def joined_names(names, lines):
    """The lists of names, in order, that lines lead to one another: each name stands in one of them."""
    parts = [[name] for name in names]
    for line in lines:
        joined = [part for part in parts if line[0] in part or line[1] in part]
        parts = [part for part in parts if part not in joined]
        parts.append(sorted([name for part in joined for name in part]))
    return sorted(parts)


def line_kept(kind, line, told):
    """Whether a line is kept by the numbers in a dict, by their names."""
    one, other, ahead, by = line
    return has_factor(kind, minus(kind, told[other], plus(kind, ahead, told[one])), by)


def lines_unkept(kind, lines, numbers):
    told = dict(numbers)
    return [at for at, line in enumerate(lines) if not line_kept(kind, line, told)]


def unknowns(book):
    check_book(book)
    return names_in(book[1])


def keeps(kind, line, numbers):
    check_kind(kind)
    check_line(kind, line)
    check_numbers(kind, numbers, list(line[:2]))
    return line_kept(kind, line, dict(numbers))


def unkept(book, numbers):
    check_book(book)
    check_numbers(book[0], numbers, names_in(book[1]))
    return lines_unkept(book[0], book[1], numbers)


def is_keeping(book, value):
    check_book(book)
    kind, lines = book
    return numbers_of(kind, names_in(lines), value) and not lines_unkept(kind, lines, value)


def moved(kind, numbers, ahead):
    check_kind(kind)
    check_numbers(kind, numbers, [])
    check_number(kind, ahead)
    return [(name, plus(kind, number, ahead)) for name, number in numbers]


def plain_line(kind, one, other, ahead, by):
    check_kind(kind)
    check_two_names(one, other)
    check_number(kind, ahead)
    check_count(by)
    return one, other, rest_by(kind, ahead, by), by
