"""A no is one way: papers against a book, and ways that bar a line."""

from hourrings.books import check_book, check_line, names_in
from hourrings.closed import closed_among, kept_table, table_with, told_table
from hourrings.kinds import common_divisor, has_factor, minus
from hourrings.rests import NOTHING, rests_agree
from hourrings.rings import steps_from, told_form


def step_off(kind, table, steps, goal, by, off):
    """The first of some steps with which a way to the goal begins that is off by what its lines and `by` share.

    A step is a tuple of a line's number, a way, the name to which it leads, and the line's `by`; the table is that of
    the lines on which a way may go on.
    """
    for step in steps:
        there, step_by = step[2:]
        # What each way behind tells goes into the closed `by`: this is off exactly if one of these ways is.
        beyond = 0 if there == goal else table.get((there, goal), NOTHING)[1]
        shared = common_divisor(kind, by, common_divisor(kind, step_by, beyond))
        if not has_factor(kind, off, shared):
            return step
    return None


def steps_barring(kind, lines, table, line, told):
    """A way of lines that can be kept with which a line does not agree, as their closed rest does not.

    The table tells what these lines tell of their two names by themselves.
    """
    here, goal, ahead, by = line
    off = minus(kind, told[0], ahead)
    begins = steps_from(lines)
    names = names_in(lines)
    way = []
    while here != goal:
        names = [name for name in names if name != here]
        steps = [(*step, lines[step[0]][3]) for step in begins[here] if step[2] in names]
        beyond = closed_among(kind, table, names)
        number, forth, here, step_by = step_off(kind, beyond, steps, goal, by, off)
        by = common_divisor(kind, by, step_by)
        way.append((number, forth))
    return way


def ring_refused(kind, lines, table, line, told):
    """A broken ring, in its told form, of lines that can be kept and of one behind them, which can't be kept beside."""
    return told_form(steps_barring(kind, lines, table, line, told) + [(len(lines), -1)])


def told_on(kind, table, lines):
    """How many of some lines, one after another, can be kept beside a closed table, and the closed table with these."""
    for number, line in enumerate(lines):
        grown = table_with(kind, table, line)
        if grown is None:
            return number, table
        table = grown
    return len(lines), table


def first_refused(kind, lines):
    """The number of the first line that can't be kept beside those ahead of it, and the rest that these tell instead.

    None if all lines can be kept together.
    """
    number, table = told_on(kind, {}, lines)
    if number == len(lines):
        return None
    return number, table[lines[number][:2]]


def way_entries(way):
    """The paper whose last entry tells the line of a way."""
    paper = []
    last = None
    for number, forth in way:
        paper.append(("told", number))
        if forth == -1:
            paper.append(("turned", len(paper) - 1))
        if last is not None:
            paper.append(("joined", last, len(paper) - 1))
        last = len(paper) - 1
    return paper


def odds_of(kind, lines):
    """The paper against lines, with the numbers of two entries that do not agree; None if they can be kept."""
    refused = first_refused(kind, lines)
    if refused is None:
        return None
    number, told = refused
    ahead = lines[:number]
    paper = way_entries(steps_barring(kind, ahead, told_table(kind, ahead), lines[number], told))
    return paper + [("told", number)], len(paper) - 1, len(paper)


def ring_at_odds(kind, lines):
    """A broken ring, in its told form, of lines that are at odds."""
    number, told = first_refused(kind, lines)
    ahead = lines[:number]
    return ring_refused(kind, ahead, told_table(kind, ahead), lines[number], told)


def barring_of(kind, lines, table, line):
    """A way with which a line does not agree, None if some numbers keep it with those of the closed table."""
    told = table.get(line[:2], NOTHING)
    if rests_agree(kind, told, line[2:]):
        return None
    return steps_barring(kind, lines, told_table(kind, lines), line, told)


def plain_odds(book):
    check_book(book)
    return odds_of(book[0], book[1])


def barring_way(book, line):
    check_book(book)
    kind, lines = book
    check_line(kind, line)
    return barring_of(kind, lines, kept_table(book), line)
