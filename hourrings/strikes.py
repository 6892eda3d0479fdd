"""Strikes: things that strike every so many hours, and the hours at which they strike together."""

from hourrings.errors import InvalidNumber, InvalidThings
from hourrings.kinds import check_count, is_whole
from hourrings.rests import NOTHING, first_apart, join, meet, meet_all, rests_agree

HOURS = "hours"


def thing_fits(value):
    return isinstance(value, tuple) and len(value) == 2 and is_whole(value[0]) and is_whole(value[1]) and value[1] >= 1


def check_things(things):
    if not isinstance(things, list) or not all([thing_fits(thing) for thing in things]):
        raise InvalidThings(things)


def check_hour(hour):
    if not is_whole(hour):
        raise InvalidNumber(hour)


def check_stretch(things, low, high):
    check_things(things)
    check_hour(low)
    check_hour(high)


def rests_of(things):
    """For each thing, the rest that the hours keep at which it strikes."""
    return [(hour % every, every) for hour, every in things]


def how_many_between(told, low, high):
    """How many hours keep a rest, from one on and ahead of another one."""
    ahead, by = told
    return max(0, (high - 1 - ahead) // by - (low - 1 - ahead) // by)


def strike_together(rests, low, high):
    """For each count, at how many hours a lot of so many things strikes, added up for all lots of so many."""
    together_at = [(0, NOTHING)]
    for told in rests:
        with_it = [(many + 1, meet(HOURS, met, told)) for many, met in together_at]
        together_at = together_at + [(many, met) for many, met in with_it if met is not None]
    sums = [0 for _ in range(len(rests) + 1)]
    for many, met in together_at:
        sums[many] += how_many_between(met, low, high)
    return sums


def just_so_many(sums):
    """For each count, at how many hours just so many things strike, by the sums for all lots of so many."""
    counts = list(sums)
    # An hour at which more strike stands in the sum of each lot of these: so each sum is lessened by the ones behind.
    for begin in range(len(counts)):
        for many in range(len(counts) - 2, begin - 1, -1):
            counts[many] -= counts[many + 1]
    return counts


def without_lesser(lots):
    """Those lots, told by bits, that are within no other one."""
    return [lot for lot in lots if not any([lot & other == lot for other in lots if other != lot])]


def greatest_bits(rests):
    """All greatest lots of rests that agree, by twos and so all together, each told by bits."""
    lots = [0]
    for at, told in enumerate(rests):
        near = sum([1 << other for other in range(at) if rests_agree(HOURS, rests[other], told)])
        with_it = sorted({lot & near | 1 << at for lot in lots})
        # A lot all of which agrees with this one is no greatest one any more; none of what is left is within another.
        lots = [lot for lot in lots if lot & near != lot] + without_lesser(with_it)
    return lots


def greatest_of(things):
    """All greatest lots of things that strike together at some hour, in order."""
    lots = greatest_bits(rests_of(things))
    return sorted([[at for at in range(len(things)) if lot >> at & 1 == 1] for lot in lots])


def striking(things, hour):
    check_things(things)
    check_hour(hour)
    return [at for at, (begin, every) in enumerate(things) if (hour - begin) % every == 0]


def together(things):
    check_things(things)
    return meet_all(HOURS, rests_of(things))


def apart(things):
    check_things(things)
    return first_apart(HOURS, rests_of(things))


def next_together(things, hour):
    check_things(things)
    check_hour(hour)
    met = meet_all(HOURS, rests_of(things))
    if met is None:
        return None
    return hour + (met[0] - hour) % met[1]


def how_often(things, low, high):
    check_stretch(things, low, high)
    met = meet_all(HOURS, rests_of(things))
    return 0 if met is None else how_many_between(met, low, high)


def how_many_strike(things, low, high):
    check_stretch(things, low, high)
    return just_so_many(strike_together(rests_of(things), low, high))


def greatest_lots(things):
    check_things(things)
    return greatest_of(things)


def strikes_from(things, hour, many):
    check_things(things)
    check_hour(hour)
    check_count(many)
    nearest = [hour + (begin - hour) % every for begin, every in things]
    found = []
    while things and len(found) < many:
        now = min(nearest)
        numbers = [at for at, strike in enumerate(nearest) if strike == now]
        found.append((now, numbers))
        for at in numbers:
            nearest[at] += things[at][1]
    return found


def shifts(things, number):
    check_things(things)
    check_count(number)
    if number >= len(things):
        raise InvalidNumber(number)
    others = meet_all(HOURS, rests_of(things[:number] + things[number + 1:]))
    if others is None:
        return None
    # Put off, it has to agree with what the others do together: so it is off by what it is away from them.
    hour, every = things[number]
    return join(HOURS, others, (-hour, every))


def fewest_put_off(things):
    check_things(things)
    left = [[at for at in range(len(things)) if at not in lot] for lot in greatest_of(things)]
    return min([(len(lot), lot) for lot in left])[1]
