"""Rings and ways of a book: their sums, their divisors, and whether they are broken."""

from hourrings.books import check_book
from hourrings.closed import is_kept_together
from hourrings.errors import InvalidRing, InvalidWay, TooMany
from hourrings.kinds import common_divisor, has_factor, is_whole, minus, plus, rest_by

MOST_RINGS = 500


def step_fits(lines, value):
    if not isinstance(value, tuple) or len(value) != 2:
        return False
    number, way = value
    return is_whole(number) and 0 <= number < len(lines) and is_whole(way) and way in (1, -1)


def step_ends(lines, step):
    """The names from which and to which a step leads."""
    one, other = lines[step[0]][:2]
    if step[1] == 1:
        return one, other
    return other, one


def trail(lines, value):
    """The names through which steps go, the first one first; none unless the value is steps that go on so."""
    if not isinstance(value, list) or not all([step_fits(lines, step) for step in value]):
        return []
    names = []
    for step in value:
        begin, end = step_ends(lines, step)
        if not names:
            names.append(begin)
        if names[-1] != begin:
            return []
        names.append(end)
    return names


def way_fits(lines, value):
    names = trail(lines, value)
    return len(names) > 1 and len(set(names)) == len(names)


def ring_fits(lines, value):
    names = trail(lines, value)
    if len(names) < 3 or names[0] != names[-1]:
        return False
    return len(set(names)) == len(value) and len({step[0] for step in value}) == len(value)


def told_form(ring):
    """The first of all forms of a ring."""
    numbers = [step[0] for step in ring]
    at = numbers.index(min(numbers))
    if ring[at][1] == -1:
        return ring[at:] + ring[:at]
    back = [(number, -way) for number, way in reversed(ring)]
    at = len(ring) - 1 - at
    return back[at:] + back[:at]


def steps_sum(kind, lines, steps):
    total = 0
    for number, way in steps:
        if way == 1:
            total = plus(kind, total, lines[number][2])
        else:
            total = minus(kind, total, lines[number][2])
    return total


def steps_divisor(kind, lines, steps):
    by = 0
    for number, _ in steps:
        by = common_divisor(kind, by, lines[number][3])
    return by


def line_of_way(kind, lines, way):
    names = trail(lines, way)
    by = steps_divisor(kind, lines, way)
    return names[0], names[-1], rest_by(kind, steps_sum(kind, lines, way), by), by


def off_by(kind, lines, ring):
    """By how much a ring in its told form is broken, 0 if it is not."""
    return rest_by(kind, steps_sum(kind, lines, ring), steps_divisor(kind, lines, ring))


def ring_is_broken(kind, lines, ring):
    return not has_factor(kind, steps_sum(kind, lines, ring), steps_divisor(kind, lines, ring))


def check_ring(book, ring):
    check_book(book)
    if not ring_fits(book[1], ring):
        raise InvalidRing(ring)


def steps_from(lines):
    """The steps that begin at each name, with the names to which they lead, by ascending numbers of lines."""
    steps = {}
    for number, line in enumerate(lines):
        one, other = line[:2]
        steps.setdefault(one, []).append((number, 1, other))
        steps.setdefault(other, []).append((number, -1, one))
    return steps


def leads_back(steps, least, goal, here, walked):
    """Whether lines behind the least one lead from a name to the goal, through no name that was walked."""
    seen = {here: True}
    left = [here]
    while left:
        name = left.pop()
        for number, _, there in steps[name]:
            if number > least and there == goal:
                return True
            if number > least and there not in walked and there not in seen:
                seen[there] = True
                left.append(there)
    return False


def walk_on(steps, goal, here, walked, path, found, most):
    """Adds to what is found each ring, in order, that goes on from a path: one more than the most, then no more."""
    least = path[0][0]
    for number, way, there in steps[here]:
        if number <= least or len(found) > most:
            continue
        going = path + [(number, way)]
        if there == goal:
            found.append(going)
        elif there not in walked and leads_back(steps, least, goal, there, walked):
            walk_on(steps, goal, there, {**walked, there: True}, going, found, most)


def first_rings(lines, most):
    """The rings in their told forms, in order, one more than the most of them at most."""
    steps = steps_from(lines)
    found = []
    for number, line in enumerate(lines):
        one, other = line[:2]
        walk_on(steps, other, one, {one: True}, [(number, -1)], found, most)
    return found


def rings_of(lines):
    """All rings in their told forms, in order; TooMany if there are more than the most."""
    found = first_rings(lines, MOST_RINGS)
    if len(found) > MOST_RINGS:
        raise TooMany(MOST_RINGS + 1)
    return found


def broken_among(kind, lines, rings):
    return [ring for ring in rings if ring_is_broken(kind, lines, ring)]


def broken_of(kind, lines):
    return broken_among(kind, lines, rings_of(lines))


def is_way(book, value):
    check_book(book)
    return way_fits(book[1], value)


def is_ring(book, value):
    check_book(book)
    return ring_fits(book[1], value)


def told_ring(book, ring):
    check_ring(book, ring)
    return told_form(ring)


def ring_sum(book, ring):
    check_ring(book, ring)
    return steps_sum(book[0], book[1], ring)


def ring_divisor(book, ring):
    check_ring(book, ring)
    return steps_divisor(book[0], book[1], ring)


def is_broken(book, ring):
    check_ring(book, ring)
    return ring_is_broken(book[0], book[1], ring)


def ring_off(book, ring):
    check_ring(book, ring)
    return off_by(book[0], book[1], told_form(ring))


def way_line(book, way):
    check_book(book)
    kind, lines = book
    if not way_fits(lines, way):
        raise InvalidWay(way)
    return line_of_way(kind, lines, way)


def can_be_kept(book):
    check_book(book)
    return is_kept_together(book[0], book[1])


def all_rings(book):
    check_book(book)
    return rings_of(book[1])


def broken_rings(book):
    check_book(book)
    return broken_of(book[0], book[1])
