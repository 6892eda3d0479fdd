"""The numbers of both kinds, reckoned without checks: what all other modules stand on."""

from math import gcd

from hourrings.errors import InvalidKind, InvalidNumber

KINDS = ("hours", "bits")
# So much longer than what divides it is a word that is folded before it is gone through bit by bit.
LONG = 1000


def is_kind(value):
    return isinstance(value, str) and value in KINDS


def is_whole(value):
    return isinstance(value, int) and not isinstance(value, bool)


def is_count(value):
    return is_whole(value) and value >= 0


def is_number(kind, value):
    return is_whole(value) and (kind == "hours" or value >= 0)


def check_kind(kind):
    if not is_kind(kind):
        raise InvalidKind(kind)


def check_number(kind, value):
    if not is_number(kind, value):
        raise InvalidNumber(value)


def check_count(value):
    if not is_count(value):
        raise InvalidNumber(value)


def is_ascending(values):
    """Whether each value is greater than the one ahead of it."""
    return all([values[at - 1] < values[at] for at in range(1, len(values))])


def plus(kind, one, other):
    if kind == "hours":
        return one + other
    return one ^ other


def minus(kind, one, other):
    if kind == "hours":
        return one - other
    return one ^ other


def times(kind, one, other):
    if kind == "hours":
        return one * other
    total = 0
    while other > 0:
        if other & 1:
            total = total ^ one
        one = one << 1
        other = other >> 1
    return total


def split_by(kind, one, by):
    """The quotient and the rest, as a tuple. Hours may be split by a number below 0, too."""
    if kind == "hours":
        return divmod(one, by)
    quotient = 0
    size = by.bit_length()
    while one.bit_length() >= size:
        shift = one.bit_length() - size
        quotient = quotient | (1 << shift)
        one = one ^ (by << shift)
    return quotient, one


def word_rest(one, by):
    """The rest of a word by a word above 0, bit by bit."""
    size = by.bit_length()
    shift = one.bit_length() - size
    while shift >= 0:
        one = one ^ (by << shift)
        shift = one.bit_length() - size
    return one


def folded(one, by):
    """A word with the same rest by a far shorter one, not much longer than this."""
    size = 1
    power = word_rest(2, by)
    powers = [(size, power)]
    while 2 * size < one.bit_length():
        size = 2 * size
        # A word times itself has each of its bits twice as far up.
        power = word_rest(int(f"{power:b}", 4), by)
        powers.append((size, power))
    for size, power in reversed(powers):
        if size > by.bit_length():
            upper = one >> size
            one = one ^ (upper << size) ^ times("bits", upper, power)
    return one


def rest_by(kind, one, by):
    """The rest by a count: the number itself by 0."""
    if by == 0:
        return one
    if kind == "hours":
        return one % by
    if one.bit_length() > LONG + 8 * by.bit_length():
        one = folded(one, by)
    return word_rest(one, by)


def has_factor(kind, one, by):
    """Whether a number is a multiple of another one: of 0 only 0 is."""
    return rest_by(kind, one, by) == 0


def common_divisor(kind, one, other):
    if kind == "hours":
        return gcd(one, other)
    if one < other:
        one, other = other, one
    if other > 0:
        one, other = other, rest_by(kind, one, other)
    while other > 0:
        # This is the rest by the other one: written out here, as a divisor takes very many of them.
        size = other.bit_length()
        shift = one.bit_length() - size
        while shift >= 0:
            one = one ^ (other << shift)
            shift = one.bit_length() - size
        one, other = other, one
    return one


def common_multiple(kind, one, other):
    if one == 0 or other == 0:
        return 0
    times_it = split_by(kind, other, common_divisor(kind, one, other))[0]
    return abs(times(kind, one, times_it))


def hours_factor(one, other):
    """A divisor of two numbers, perhaps below 0, and a factor with which the one comes to it up to the other one."""
    x, next_x = 1, 0
    while other != 0:
        factor, left = divmod(one, other)
        one, other = other, left
        x, next_x = next_x, x - next_x * factor
    return one, x


def word_factor(one, other):
    """The divisor of two words, and a factor with which the one comes to it up to multiples of the other one."""
    x, next_x = 1, 0
    while other > 0:
        size = other.bit_length()
        shift = one.bit_length() - size
        while shift >= 0:
            one = one ^ (other << shift)
            x = x ^ (next_x << shift)
            shift = one.bit_length() - size
        one, other = other, one
        x, next_x = next_x, x
    return one, x


def divisor_with_factors(kind, one, other):
    """The tuple (count, p, q, x, y) that tells the divisor of two numbers by its factors."""
    count, x = hours_factor(one, other) if kind == "hours" else word_factor(one, other)
    if count < 0:
        count, x = -count, -x
    if count == 0:
        return 0, 0, 0, 0, 0
    y = 0
    if other != 0:
        # What is missing is a multiple of the other one, so its factor need not be carried along.
        y = split_by(kind, minus(kind, count, times(kind, one, x)), other)[0]
    return count, split_by(kind, one, count)[0], split_by(kind, other, count)[0], x, y
