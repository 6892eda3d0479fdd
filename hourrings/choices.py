"""Choices, of each of which one alternative is picked: which picks are good, and what all good ones tell."""

from itertools import combinations

from hourrings.barred import least_barred
from hourrings.books import check_book, check_line, check_names, check_two_names, line_fits, lines_fit, names_in
from hourrings.closed import blank_table, gone_through, is_kept_together, line_follows, told_beside
from hourrings.errors import AtOdds, InvalidChoices, InvalidLine, InvalidNumber, InvalidPicks, TooMany
from hourrings.kinds import check_kind, common_divisor, is_count, minus, rest_by
from hourrings.rests import NOTHING

MOST_PICKS = 200
MOST_RESTS = 12


def choice_fits(kind, value):
    return isinstance(value, list) and len(value) > 0 and all([lines_fit(kind, lines) for lines in value])


def choices_fit(kind, value):
    return isinstance(value, list) and all([choice_fits(kind, choice) for choice in value])


def picks_fit(choices, value):
    if not isinstance(value, list) or not all([is_count(pick) for pick in value]):
        return False
    return len(value) == len(choices) and all([pick < len(choice) for pick, choice in zip(value, choices)])


def item_fits(choices, value):
    """Whether a value is a tuple of the numbers of a choice and of an alternative of it."""
    if not isinstance(value, tuple) or len(value) != 2 or not all([is_count(number) for number in value]):
        return False
    return value[0] < len(choices) and value[1] < len(choices[value[0]])


def lot_of_choices(choices, value):
    """Whether a value is a lot of alternatives."""
    if not isinstance(value, list) or not all([item_fits(choices, item) for item in value]):
        return False
    return all([value[at - 1][0] < value[at][0] for at in range(1, len(value))])


def check_choices(book, choices):
    check_book(book)
    if not choices_fit(book[0], choices):
        raise InvalidChoices(choices)


def check_how_many(choices):
    """Refuses choices of which there are more picks than can be gone through."""
    many = 1
    for choice in choices:
        many = many * len(choice)
    if many > MOST_PICKS:
        raise TooMany(many)


def lines_of_lot(lines, choices, lot):
    """Some lines and, behind them, those of the alternatives of a lot, in its order."""
    return lines + [line for number, at in lot for line in choices[number][at]]


def names_of_all(lines, choices):
    return names_in(lines + [line for choice in choices for more in choice for line in more])


def picks_beside(kind, names, kept, choice):
    """Good picks with those of one choice more, in order, each with the table of what is told beside them."""
    going = []
    for picks, table in kept:
        for at, more in enumerate(choice):
            grown = told_beside(kind, table, more)
            if grown is not None and gone_through(kind, grown, names) is not None:
                going.append((picks + [at], grown))
    return going


def good_picks(kind, lines, choices):
    """All good picks, in order, each with the table of what the lines beside them tell."""
    names = names_of_all(lines, choices)
    # Where there is but one alternative it is picked in any case: so its lines are told once, ahead of all others.
    forced = [line for choice in choices if len(choice) == 1 for line in choice[0]]
    told = told_beside(kind, blank_table(names), lines + forced)
    if told is None or gone_through(kind, told, names) is None:
        return []
    kept = [([], told)]
    for choice in choices:
        if len(choice) > 1:
            kept = picks_beside(kind, names, kept, choice)
        else:
            kept = [(picks + [0], table) for picks, table in kept]
    return kept


def picks_of(book, choices):
    """All good picks, in order, of choices that may be any value."""
    check_choices(book, choices)
    check_how_many(choices)
    return [picks for picks, _ in good_picks(book[0], book[1], choices)]


def rest_beside(kind, names, table, one, other):
    """What a table of told lines that can be kept tells of two names."""
    if one not in names or other not in names:
        return NOTHING
    others = [name for name in names if name not in (one, other)]
    return gone_through(kind, table, others + [one, other])[(one, other)]


def common_rest(book, choices, one, other):
    """The strongest rest that the books of all good picks tell of two names."""
    kind, lines = book
    check_how_many(choices)
    kept = good_picks(kind, lines, choices)
    if not kept:
        raise AtOdds(book)
    names = names_of_all(lines, choices)
    told = [rest_beside(kind, names, table, one, other) for _, table in kept]
    first = told[0][0]
    common = 0
    for ahead, by in told:
        common = common_divisor(kind, common, common_divisor(kind, by, minus(kind, ahead, first)))
    return rest_by(kind, first, common), common


def barred_of(kind, lines, choices):
    """All least barred lots, in order."""
    names = names_of_all(lines, choices)
    table = told_beside(kind, blank_table(names), lines)
    if table is None:
        return [[]]
    return least_barred(kind, names, table, choices)


def rests_by(kind, by):
    """How many rests a count above 0 has."""
    if kind == "hours":
        return by
    return 1 << (by.bit_length() - 1)


def has_few_rests(kind, by):
    return is_count(by) and by > 0 and 2 <= rests_by(kind, by) <= MOST_RESTS


def other_lines(kind, line):
    """The choice that tells each rest but that of a line."""
    one, other, ahead, by = line
    return [[(one, other, told, by)] for told in range(rests_by(kind, by)) if told != ahead]


def are_choices(kind, value):
    check_kind(kind)
    return choices_fit(kind, value)


def picked(book, choices, picks):
    check_choices(book, choices)
    if not picks_fit(choices, picks):
        raise InvalidPicks(picks)
    return book[0], lines_of_lot(book[1], choices, list(enumerate(picks)))


def first_picks(book, choices):
    found = picks_of(book, choices)
    return found[0] if found else None


def how_many_picks(book, choices):
    return len(picks_of(book, choices))


def all_picks(book, choices):
    return picks_of(book, choices)


def barred_lots(book, choices):
    check_choices(book, choices)
    check_how_many(choices)
    return barred_of(book[0], book[1], choices)


def is_barred(book, choices, value):
    check_choices(book, choices)
    if not lot_of_choices(choices, value):
        return False
    return not is_kept_together(book[0], lines_of_lot(book[1], choices, value))


def not_line(kind, line):
    check_kind(kind)
    if not line_fits(kind, line) or not has_few_rests(kind, line[3]):
        raise InvalidLine(line)
    return other_lines(kind, line)


def unlike_by(kind, names, by):
    check_kind(kind)
    check_names(names)
    if not has_few_rests(kind, by):
        raise InvalidNumber(by)
    return [other_lines(kind, (one, other, 0, by)) for one, other in combinations(names, 2)]


def follows_all(book, choices, line):
    check_choices(book, choices)
    check_line(book[0], line)
    return line_follows(book[0], line, common_rest(book, choices, line[0], line[1]))


def common_line(book, choices, one, other):
    check_choices(book, choices)
    check_two_names(one, other)
    return one, other, *common_rest(book, choices, one, other)
