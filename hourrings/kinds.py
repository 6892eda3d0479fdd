"""The numbers of both kinds, reckoned without checks: what all other modules stand on."""

from math import gcd

from hourrings.errors import InvalidKind, InvalidNumber

KINDS = ("hours", "bits")
# So much longer than what divides it is a word that is folded before it is gone through bit by bit.
LONG = 1000


def is_kind(value):
    return isinstance(value, str) and value in KINDS


def is_whole(value):
    return isinstance(value, int) and not isinstance(value, bool)


def is_count(value):
    return is_whole(value) and value >= 0


def is_number(kind, value):
    return is_whole(value) and (kind == "hours" or value >= 0)


def check_kind(kind):
    if not is_kind(kind):
        raise InvalidKind(kind)


def check_number(kind, value):
    if not is_number(kind, value):
        raise InvalidNumber(value)


def check_count(value):
    if not is_count(value):
        raise InvalidNumber(value)


def is_ascending(values):
    """Whether each value is greater than the one ahead of it."""
    return all([values[at - 1] < values[at] for at in range(1, len(values))])


def plus(kind, one, other):
    if kind == "hours":
        return one + other
    return one ^ other


def minus(kind, one, other):
    if kind == "hours":
        return one - other
    return one ^ other


def times(kind, one, other):
    if kind == "hours":
        return one * other
    total = 0
    while other > 0:
        if other & 1:
            total = total ^ one
        one = one << 1
        other = other >> 1
    return total


def split_by(kind, one, by):
    """The quotient and the rest, as a tuple. Hours may be split by a number below 0, too."""
    if kind == "hours":
        return divmod(one, by)
    quotient = 0
    size = by.bit_length()
    while one.bit_length() >= size:
        shift = one.bit_length() - size
        quotient = quotient | (1 << shift)
        one = one ^ (by << shift)
    return quotient, one


def folded(one, by):
    """A word with the same rest by a far shorter one, not much longer than this."""
    size = 1
    power = split_by("bits", 2, by)[1]
    powers = [(size, power)]
    while 2 * size < one.bit_length():
        size = 2 * size
        # A word times itself has each of its bits twice as far up.
        power = split_by("bits", int(f"{power:b}", 4), by)[1]
        powers.append((size, power))
    for size, power in reversed(powers):
        if size > by.bit_length():
            upper = one >> size
            one = one ^ (upper << size) ^ times("bits", upper, power)
    return one


def rest_by(kind, one, by):
    """The rest by a count: the number itself by 0."""
    if by == 0:
        return one
    if kind == "bits" and one.bit_length() > LONG + 8 * by.bit_length():
        one = folded(one, by)
    return split_by(kind, one, by)[1]


def has_factor(kind, one, by):
    """Whether a number is a multiple of another one: of 0 only 0 is."""
    return rest_by(kind, one, by) == 0


def common_divisor(kind, one, other):
    if kind == "hours":
        return gcd(one, other)
    while other > 0:
        one, other = other, rest_by(kind, one, other)
    return one


def common_multiple(kind, one, other):
    if one == 0 or other == 0:
        return 0
    times_it = split_by(kind, other, common_divisor(kind, one, other))[0]
    return abs(times(kind, one, times_it))


def divisor_with_factors(kind, one, other):
    """The tuple (count, p, q, x, y) that tells the divisor of two numbers by its factors."""
    count, x = one, 1
    following, next_x = other, 0
    while following != 0:
        factor, left = split_by(kind, count, following)
        count, following = following, left
        x, next_x = next_x, minus(kind, x, times(kind, next_x, factor))
    if count < 0:
        count, x = -count, -x
    if count == 0:
        return 0, 0, 0, 0, 0
    y = 0
    if other != 0:
        # What is missing is a multiple of the other one, so its factor need not be carried along.
        y = split_by(kind, minus(kind, count, times(kind, one, x)), other)[0]
    return count, split_by(kind, one, count)[0], split_by(kind, other, count)[0], x, y
