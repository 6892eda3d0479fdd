"""Lots of alternatives, one of a choice at most, that cannot be kept: the least ones are looked for, without checks.

Within this file a lot is told by bits: one for each alternative, those of choices with few of them first.
"""

from hourrings.closed import gone_through, told_beside


def has_part(lot, parts):
    """Whether one of some lots is within a lot."""
    return any([part & lot == part for part in parts])


def is_part(lot, wholes):
    return any([lot & whole == lot for whole in wholes])


def bits_of(sizes):
    """The bits of the alternatives of each choice."""
    found = []
    begin = 0
    for size in sizes:
        found.append([1 << (begin + at) for at in range(size)])
        begin += size
    return found


def filled(lot, bits, barred):
    """A lot with an alternative more of each further choice that has one with which no barred lot is within it."""
    for of_choice in bits:
        if not any([lot & bit for bit in of_choice]):
            free = [bit for bit in of_choice if not has_part(lot | bit, barred)]
            if free:
                lot = lot | free[0]
    return lot


def lots_behind(lot, bits):
    """The lots with one alternative more, of a choice behind those of a lot."""
    return [lot | bit for of_choice in bits if lot < of_choice[0] for bit in of_choice]


def told_of_lot(kind, tables, alternatives, lot):
    """What is told beside the alternatives of a lot, None if this does not agree; each such table is made once."""
    if lot not in tables:
        last = lot.bit_length() - 1
        ahead = told_of_lot(kind, tables, alternatives, lot ^ (1 << last))
        tables[lot] = None if ahead is None else told_beside(kind, ahead, alternatives[last])
    return tables[lot]


def is_lot_kept(kind, names, tables, alternatives, lot):
    told = told_of_lot(kind, tables, alternatives, lot)
    return told is not None and gone_through(kind, told, names) is not None


def barred_lots_of(kind, names, table, alternatives, bits):
    """All least lots that cannot be kept beside a table of told lines."""
    tables = {0: table}
    barred, kept, lots = [], [], [0]
    while lots:
        # Lots with fewer alternatives come first: so a barred one without a known one within it is a least one.
        lots = [lot for lot in lots if not has_part(lot, barred)]
        going = []
        for lot in lots:
            if not is_part(lot, kept):
                # What can be kept with more alternatives lets all lots within it by at once.
                whole = filled(lot, bits, barred)
                if is_lot_kept(kind, names, tables, alternatives, whole):
                    kept.append(whole)
                elif not is_lot_kept(kind, names, tables, alternatives, lot):
                    barred.append(lot)
                    continue
            going.extend(lots_behind(lot, bits))
        lots = going
    return barred


def least_barred(kind, names, table, choices):
    """All least lots, in order, as lists of items, that cannot be kept beside a table of told lines."""
    order = sorted([(len(choice), number) for number, choice in enumerate(choices)])
    items = [(number, at) for size, number in order for at in range(size)]
    alternatives = [choices[number][at] for number, at in items]
    barred = barred_lots_of(kind, names, table, alternatives, bits_of([size for size, _ in order]))
    return sorted([sorted([item for at, item in enumerate(items) if lot >> at & 1]) for lot in barred])
