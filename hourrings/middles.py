"""Between two books: middles, which one tells and the other is at odds with, and what a row of books carries."""

from hourrings.books import check_two_books, is_book, names_in
from hourrings.closed import closed_table, is_kept_together, kept_table, lines_of_table, not_following
from hourrings.errors import AtOdds, InvalidBook, InvalidRing, Unlike
from hourrings.forgetting import shared_names
from hourrings.rests import turn
from hourrings.rings import line_of_way, ring_fits, ring_is_broken


def check_two_kept(one, other):
    check_two_books(one, other)
    kept_table(one)
    kept_table(other)


def are_at_odds(book, lines):
    """Whether a book and further lines can't be kept together."""
    return not is_kept_together(book[0], book[1] + lines)


def strongest_lines(one, other):
    """What one book tells of the shared unknowns."""
    return lines_of_table(kept_table(one), shared_names(one, other))


def middle_fits(one, other, value):
    """Whether a value is a middle of two books that can be kept."""
    if not is_book(value) or value[0] != one[0]:
        return False
    names = shared_names(one, other)
    if not all([name in names for name in names_in(value[1])]):
        return False
    return not not_following(one[0], kept_table(one), value[1]) and are_at_odds(other, value[1])


def stretches_of(ring, many):
    """The longest stretches of a ring's steps that are lines with numbers below this; not all steps are."""
    begin = [number < many for number, _ in ring].index(False)
    stretches = []
    going = False
    for step in ring[begin:] + ring[:begin]:
        if step[0] < many and not going:
            stretches.append([])
        going = step[0] < many
        if going:
            stretches[-1].append(step)
    return stretches


def line_in_order(kind, lines, way):
    """The line of a way, told from the lesser name to the greater one."""
    one, other, *told = line_of_way(kind, lines, way)
    if one < other:
        return one, other, *told
    return other, one, *turn(kind, told)


def check_row_of_books(books):
    if not isinstance(books, list) or len(books) < 2 or not all([is_book(book) for book in books]):
        raise InvalidBook(books)
    for at in range(1, len(books)):
        if books[at][0] != books[at - 1][0]:
            raise Unlike(books[at])


def lines_up_to(books, many):
    return [line for book in books[:many] for line in book[1]]


def names_going_on(books, many):
    """The unknowns of the first books of a row that stand in a book behind, too."""
    behind = names_in([line for book in books[many:] for line in book[1]])
    return [name for name in names_in(lines_up_to(books, many)) if name in behind]


def carried_lines(books):
    """What is carried behind each place but the last one, up to the first place behind which all is at odds."""
    kind = books[0][0]
    found = []
    told = []
    for at, book in enumerate(books[:-1]):
        lines = told + book[1]
        table = closed_table(kind, lines)
        if table is None:
            break
        going_on = names_going_on(books, at + 1)
        told = lines_of_table(table, [name for name in names_in(lines) if name in going_on])
        found.append(told)
    return found


def check_beginnings(books):
    """Refuses a row of books of which a beginning is at odds, and returns what is carried along it."""
    check_row_of_books(books)
    found = carried_lines(books)
    if len(found) < len(books) - 1:
        raise AtOdds((books[0][0], lines_up_to(books, len(found) + 1)))
    return found


def carries(books, at, value):
    """Whether the book with a number in a list of books can be carried behind the place with this number."""
    kind = books[0][0]
    if not is_book(value[at]) or value[at][0] != kind:
        return False
    names = names_going_on(books, at + 1)
    if not all([name in names for name in names_in(value[at][1])]):
        return False
    ahead = value[at - 1][1] if at > 0 else []
    return not not_following(kind, closed_table(kind, ahead + books[at][1]), value[at][1])


def is_middle(one, other, value):
    check_two_kept(one, other)
    return middle_fits(one, other, value)


def strongest_middle(one, other):
    check_two_kept(one, other)
    lines = strongest_lines(one, other)
    return (one[0], lines) if are_at_odds(other, lines) else None


def least_middle(one, other):
    check_two_kept(one, other)
    lines = strongest_lines(one, other)
    if not are_at_odds(other, lines):
        return None
    left = lines
    for line in lines:
        fewer = [item for item in left if item != line]
        if are_at_odds(other, fewer):
            left = fewer
    return one[0], left


def is_least_middle(one, other, value):
    check_two_kept(one, other)
    if not middle_fits(one, other, value):
        return False
    lines = value[1]
    return not any([are_at_odds(other, lines[:at] + lines[at + 1:]) for at in range(len(lines))])


def ring_middle(one, other, ring):
    check_two_kept(one, other)
    kind = one[0]
    lines = one[1] + other[1]
    if not ring_fits(lines, ring) or not ring_is_broken(kind, lines, ring):
        raise InvalidRing(ring)
    return kind, sorted([line_in_order(kind, lines, way) for way in stretches_of(ring, len(one[1]))])


def carried(books):
    found = check_beginnings(books)
    return [(books[0][0], lines) for lines in found]


def can_be_kept_along(books):
    check_row_of_books(books)
    found = carried_lines(books)
    return len(found) == len(books) - 1 and is_kept_together(books[0][0], found[-1] + books[-1][1])


def is_carrying(books, value):
    check_beginnings(books)
    if not isinstance(value, list) or len(value) != len(books) - 1:
        return False
    for at in range(len(value)):
        # What is ahead was found to follow: so it can be kept together with the book at this place.
        if not carries(books, at, value):
            return False
    return True
