"""Numbers of both kinds: sums, products, rests, divisors, and divisors told by factors."""

from hourrings.errors import InvalidNumber
from hourrings.kinds import check_count, check_kind, check_number, common_divisor, common_multiple
from hourrings.kinds import divisor_with_factors, has_factor, is_number, minus, plus, rest_by, split_by, times


def check_two(kind, one, other):
    check_kind(kind)
    check_number(kind, one)
    check_number(kind, other)


def added(kind, one, other):
    check_two(kind, one, other)
    return plus(kind, one, other)


def less(kind, one, other):
    check_two(kind, one, other)
    return minus(kind, one, other)


def product(kind, one, other):
    check_two(kind, one, other)
    return times(kind, one, other)


def quotient(kind, one, by):
    check_two(kind, one, by)
    if by <= 0:
        raise InvalidNumber(by)
    return split_by(kind, one, by)[0]


def rest(kind, one, by):
    check_kind(kind)
    check_number(kind, one)
    check_count(by)
    return rest_by(kind, one, by)


def is_multiple(kind, one, by):
    check_two(kind, one, by)
    return has_factor(kind, one, by)


def divisor(kind, one, other):
    check_two(kind, one, other)
    return common_divisor(kind, one, other)


def multiple(kind, one, other):
    check_two(kind, one, other)
    return common_multiple(kind, one, other)


def divisor_paper(kind, one, other):
    check_two(kind, one, other)
    return divisor_with_factors(kind, one, other)


def is_divisor_paper(kind, one, other, value):
    check_two(kind, one, other)
    if not isinstance(value, tuple) or len(value) != 5:
        return False
    if not all([is_number(kind, item) for item in value]) or value[0] < 0:
        return False
    count, p, q, x, y = value
    if times(kind, count, p) != one or times(kind, count, q) != other:
        return False
    return plus(kind, times(kind, one, x), times(kind, other, y)) == count
