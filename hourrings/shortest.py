"""Shortest broken rings, least lots of lines that cannot be kept, and broken rings that are mended."""

from hourrings.books import check_book, names_in
from hourrings.closed import is_kept_together
from hourrings.errors import InvalidLines, InvalidNumber, TooMany
from hourrings.kinds import common_divisor, has_factor, is_ascending, is_whole, minus, plus, rest_by
from hourrings.rings import broken_of, check_ring, off_by, ring_fits, ring_is_broken, step_ends, steps_from, told_form

MOST_DIVISORS = 300


def divisors_of_lines(kind, lines):
    """The divisors of all lots of lines, ascending; TooMany if there are more than the most."""
    known = {}
    for line in lines:
        more = [common_divisor(kind, line[3], by) for by in known]
        for by in [line[3]] + more:
            known[by] = True
        if len(known) > MOST_DIVISORS:
            raise TooMany(MOST_DIVISORS + 1)
    return sorted(known)


def level_numbers(kind, lines, by):
    """The numbers of the lines whose own `by` is a multiple of one."""
    return [number for number, line in enumerate(lines) if has_factor(kind, line[3], by)]


def way_back(steps):
    return [(number, -way) for number, way in reversed(steps)]


def tree_from(kind, lines, steps, root):
    """For each name that steps lead to from a root: some fewest steps to it, and their sum."""
    reached = {root: ([], 0)}
    begins = [root]
    while begins:
        ends = []
        for name in begins:
            path, total = reached[name]
            for number, way, there in steps[name]:
                if there not in reached:
                    ahead = lines[number][2]
                    summed = plus(kind, total, ahead) if way == 1 else minus(kind, total, ahead)
                    reached[there] = (path + [(number, way)], summed)
                    ends.append(there)
        begins = ends
    return reached


def least_ring(kind, lines, by, most):
    """A ring with the fewest steps whose sum is no multiple of `by`, None if all such rings have more than the most."""
    steps = steps_from(lines)
    best = None
    for root in steps:
        reached = tree_from(kind, lines, steps, root)
        for number, line in enumerate(lines):
            if line[0] not in reached:
                continue
            (path, total), (back, told) = reached[line[0]], reached[line[1]]
            if len(path) + 1 + len(back) > most:
                continue
            if not has_factor(kind, minus(kind, plus(kind, total, line[2]), told), by):
                best = path + [(number, 1)] + way_back(back)
                most = len(best) - 1
    return best


def level_ring_of(kind, lines, by, most):
    """A least ring, in its told form, of those of a level that are broken by it and have at most so many steps."""
    numbers = level_numbers(kind, lines, by)
    rests = [(*lines[number][:2], rest_by(kind, lines[number][2], by)) for number in numbers]
    ring = least_ring(kind, rests, by, most)
    if ring is None:
        return None
    return told_form([(numbers[at], way) for at, way in ring])


def shortest_by_level(kind, lines):
    """The least divisor by which a ring with the fewest lines is broken, and such a ring; None if none is broken."""
    best = None
    most = len(names_in(lines))
    for by in divisors_of_lines(kind, lines):
        ring = level_ring_of(kind, lines, by, most)
        if ring is not None:
            best = (by, ring)
            most = len(ring) - 1
    return best


def shortest_of(kind, lines):
    """A broken ring with the fewest lines, in its told form, None if none is broken."""
    best = shortest_by_level(kind, lines)
    return None if best is None else best[1]


def lot_fits(lines, value):
    """Whether a value is a lot of the lines."""
    if not isinstance(value, list) or not all([is_whole(number) for number in value]):
        return False
    return is_ascending(value) and all([0 <= number < len(lines) for number in value])


def ring_made(lines, lot):
    """The told form of the ring that just the lines of a lot make, None if they make none."""
    if len(lot) < 2:
        return None
    ring = [(lot[0], -1)]
    left = lot[1:]
    while left:
        here = step_ends(lines, ring[-1])[1]
        meeting = [number for number in left if here in lines[number][:2]]
        if not meeting:
            return None
        way = 1 if lines[meeting[0]][0] == here else -1
        ring.append((meeting[0], way))
        left = [number for number in left if number != meeting[0]]
    return ring if ring_fits(lines, ring) else None


def shortest_broken(book):
    check_book(book)
    return shortest_of(book[0], book[1])


def is_shortest_broken(book, value):
    check_book(book)
    kind, lines = book
    least = shortest_of(kind, lines)
    if least is None or not ring_fits(lines, value) or len(value) != len(least):
        return False
    return ring_is_broken(kind, lines, value)


def cores(book):
    check_book(book)
    return sorted([sorted([number for number, _ in ring]) for ring in broken_of(book[0], book[1])])


def is_core(book, value):
    check_book(book)
    kind, lines = book
    if not lot_fits(lines, value):
        return False
    ring = ring_made(lines, value)
    return ring is not None and ring_is_broken(kind, lines, ring)


def ring_of(book, lot):
    check_book(book)
    if not lot_fits(book[1], lot):
        raise InvalidLines(lot)
    return ring_made(book[1], lot)


def quiet_lines(book):
    check_book(book)
    kind, lines = book
    loud = {}
    for ring in broken_of(kind, lines):
        for number, _ in ring:
            loud[number] = True
    return [number for number in range(len(lines)) if number not in loud]


def saving_lines(book):
    check_book(book)
    kind, lines = book
    if is_kept_together(kind, lines):
        return list(range(len(lines)))
    return [at for at in range(len(lines)) if is_kept_together(kind, lines[:at] + lines[at + 1:])]


def mended(book, ring, number):
    check_ring(book, ring)
    kind, lines = book
    told = told_form(ring)
    ways = {step[0]: step[1] for step in told}
    if not is_whole(number) or number not in ways:
        raise InvalidNumber(number)
    one, other, ahead, by = lines[number]
    off = off_by(kind, lines, told)
    ahead = minus(kind, ahead, off) if ways[number] == 1 else plus(kind, ahead, off)
    return kind, lines[:number] + [(one, other, rest_by(kind, ahead, by), by)] + lines[number + 1:]
