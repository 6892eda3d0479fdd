"""Giving up lines: which have to go so that the others can be kept, and which can stay together."""

from hourrings.books import check_book, check_order
from hourrings.closed import is_kept_together
from hourrings.errors import InvalidLines, InvalidNumber
from hourrings.kinds import check_count, is_ascending, is_count
from hourrings.rings import broken_among, first_rings
from hourrings.shortest import lot_fits


def list_fits(value):
    """Whether a value is an ascending list of counts."""
    return isinstance(value, list) and all([is_count(item) for item in value]) and is_ascending(value)


def cross_on(rows, left, free, alone):
    """All least lists of items that cross what is left, and each item of which crosses something alone.

    What is crossed is told by bits: for each item that of all that it crosses by `rows`, and for each item that was
    taken that of all that it crosses alone by `alone`; only free items are taken further.
    """
    if left == 0:
        return [sorted(alone)]
    bit = left & -left
    found = []
    going = [item for item in free if rows[item] & bit == 0]
    for item in [item for item in free if rows[item] & bit != 0]:
        taken = {old: alone[old] & ~rows[item] for old in alone}
        taken[item] = left & rows[item]
        if all(list(taken.values())):
            found.extend(cross_on(rows, left & ~rows[item], going, taken))
            going.append(item)
    return found


def crossed(lots):
    """All least ascending lists, in order, that have an item in common with each of some lists."""
    # Short lists leave few items: so they come first.
    left = sorted([(len(lot), lot) for lot in lots])
    rows = {}
    for at, (_, lot) in enumerate(left):
        for item in lot:
            rows[item] = rows.get(item, 0) | 1 << at
    return sorted(cross_on(rows, (1 << len(left)) - 1, sorted(rows), {}))


def givings_of(kind, lines):
    """All least givings up, in order."""
    # Each ring takes a lot of lines of its own: so there are no more rings than lots.
    rings = broken_among(kind, lines, first_rings(lines, 1 << len(lines)))
    return crossed([[number for number, _ in ring] for ring in rings])


def fewest_of(lots):
    """The first, in order, of those lots with the fewest lines."""
    return min([(len(lot), lot) for lot in lots])[1]


def others_of(lines, lot):
    """The numbers of the lines that are not in a lot."""
    return [number for number in range(len(lines)) if number not in lot]


def is_lot_kept(kind, lines, lot):
    return is_kept_together(kind, [lines[number] for number in lot])


def giving_fits(kind, lines, value):
    return lot_fits(lines, value) and is_lot_kept(kind, lines, others_of(lines, value))


def is_greatest(kind, lines, lot):
    """Whether no other line can be kept together with those of a part."""
    return not any([is_lot_kept(kind, lines, lot + [number]) for number in others_of(lines, lot)])


def greatest_fits(kind, lines, value):
    """Whether a value is a greatest part."""
    return lot_fits(lines, value) and is_lot_kept(kind, lines, value) and is_greatest(kind, lines, value)


def order_of_part(kind, lines, part):
    """The first order by which a greatest part comes."""
    order = []
    taken = []
    left = list(range(len(lines)))
    while left:
        # A line that is not in the part can stand where it can't be kept together with those ahead of it.
        number = [at for at in left if at in part or not is_lot_kept(kind, lines, taken + [at])][0]
        order.append(number)
        left = [at for at in left if at != number]
        if number in part:
            taken.append(number)
    return order


def check_weights(book, weights):
    check_book(book)
    if not isinstance(weights, list) or not all([is_count(weight) for weight in weights]):
        raise InvalidNumber(weights)
    if len(weights) != len(book[1]):
        raise InvalidNumber(weights)


def lightest_lots(book, weights):
    """The least givings up, in order, of the smallest weight, and this weight."""
    weighed = [(sum([weights[number] for number in lot]), lot) for lot in givings_of(book[0], book[1])]
    least = min(weighed)[0]
    return [lot for weight, lot in weighed if weight == least], least


def is_giving(book, value):
    check_book(book)
    return giving_fits(book[0], book[1], value)


def is_part(book, value):
    check_book(book)
    return lot_fits(book[1], value) and is_lot_kept(book[0], book[1], value)


def is_least_giving(book, value):
    check_book(book)
    kind, lines = book
    return giving_fits(kind, lines, value) and is_greatest(kind, lines, others_of(lines, value))


def is_greatest_part(book, value):
    check_book(book)
    return greatest_fits(book[0], book[1], value)


def least_givings(book):
    check_book(book)
    return givings_of(book[0], book[1])


def greatest_parts(book):
    check_book(book)
    kind, lines = book
    return sorted([others_of(lines, lot) for lot in givings_of(kind, lines)])


def crossing(lots):
    if not isinstance(lots, list) or not all([list_fits(lot) for lot in lots]):
        raise InvalidLines(lots)
    return crossed(lots)


def fewest_giving(book):
    check_book(book)
    return fewest_of(givings_of(book[0], book[1]))


def how_many_fewest(book):
    check_book(book)
    many = [len(lot) for lot in givings_of(book[0], book[1])]
    return many.count(min(many))


def staying(book, number):
    check_book(book)
    kind, lines = book
    check_count(number)
    if number >= len(lines):
        raise InvalidNumber(number)
    return fewest_of([lot for lot in givings_of(kind, lines) if number not in lot])


def never_given(book):
    check_book(book)
    kind, lines = book
    given = [number for lot in givings_of(kind, lines) for number in lot]
    return others_of(lines, given)


def part_by(book, order):
    check_book(book)
    kind, lines = book
    check_order(lines, order)
    taken = []
    for number in order:
        if is_lot_kept(kind, lines, taken + [number]):
            taken.append(number)
    return sorted(taken)


def order_for(book, part):
    check_book(book)
    kind, lines = book
    if not greatest_fits(kind, lines, part):
        raise InvalidLines(part)
    return order_of_part(kind, lines, part)


def lightest_giving(book, weights):
    check_weights(book, weights)
    lots, weight = lightest_lots(book, weights)
    return lots[0], weight


def is_lightest(book, weights, value):
    check_weights(book, weights)
    return lot_fits(book[1], value) and value in lightest_lots(book, weights)[0]
