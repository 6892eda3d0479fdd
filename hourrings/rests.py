"""Rests and lines: whether they agree, and what they tell together."""

from hourrings.books import check_line, may_tell
from hourrings.errors import InvalidLine, InvalidLines, Unlike
from hourrings.kinds import check_count, check_kind, common_divisor, divisor_with_factors, has_factor
from hourrings.kinds import minus, plus, rest_by, split_by, times

NOTHING = (0, 1)


def rest_fits(kind, value):
    return isinstance(value, tuple) and len(value) == 2 and may_tell(kind, value[0], value[1])


def check_two_rests(kind, one, other):
    check_kind(kind)
    if not rest_fits(kind, one):
        raise InvalidLine(one)
    if not rest_fits(kind, other):
        raise InvalidLine(other)


def check_rests(kind, rests):
    if not isinstance(rests, list) or not all([rest_fits(kind, told) for told in rests]):
        raise InvalidLines(rests)


def check_two_lines(kind, one, other):
    check_kind(kind)
    check_line(kind, one)
    check_line(kind, other)


def turn(kind, told):
    """The rest of the opposite."""
    return rest_by(kind, minus(kind, 0, told[0]), told[1]), told[1]


def join(kind, one, other):
    """The strongest rest that all sums of two numbers keep, one of each rest."""
    by = common_divisor(kind, one[1], other[1])
    return rest_by(kind, plus(kind, one[0], other[0]), by), by


def rests_agree(kind, one, other):
    return has_factor(kind, minus(kind, one[0], other[0]), common_divisor(kind, one[1], other[1]))


def meet(kind, one, other):
    """The rest that both rests tell together, None if no number keeps both."""
    apart = minus(kind, other[0], one[0])
    # Most often one of them is the stronger one by itself: this is far quicker than what follows.
    if has_factor(kind, one[1], other[1]):
        return one if has_factor(kind, apart, other[1]) else None
    if has_factor(kind, other[1], one[1]):
        return other if has_factor(kind, apart, one[1]) else None
    if one[1] < other[1]:
        return meet(kind, other, one)
    # The greater one is most often far greater: beside it, nothing is reckoned with but rests of the other one.
    left_over = rest_by(kind, one[1], other[1])
    count, _, missing, factor, _ = divisor_with_factors(kind, left_over, other[1])
    many, left = split_by(kind, rest_by(kind, apart, other[1]), count)
    if left != 0:
        return None
    many = rest_by(kind, times(kind, many, factor), missing)
    return plus(kind, one[0], times(kind, one[1], many)), times(kind, one[1], missing)


def meet_all(kind, rests):
    met = NOTHING
    for told in rests:
        met = meet(kind, met, told)
        if met is None:
            return None
    return met


def numbered_count(kind, told, number):
    """The count that keeps a rest and has so many such counts less than it; by 0 it is the only one."""
    ahead, by = told
    if kind == "hours" or by == 0:
        return ahead + by * number
    # The bits above the rest can be any: the words are as their upper bits are, in order.
    upper = number << (by.bit_length() - 1)
    return upper ^ rest_by(kind, upper, by) ^ ahead


def agree(kind, one, other):
    check_two_rests(kind, one, other)
    return rests_agree(kind, one, other)


def met_rest(kind, one, other):
    check_two_rests(kind, one, other)
    return meet(kind, one, other)


def met_rests(kind, rests):
    check_kind(kind)
    check_rests(kind, rests)
    return meet_all(kind, rests)


def first_apart(kind, rests):
    check_kind(kind)
    check_rests(kind, rests)
    for at, one in enumerate(rests):
        for other in range(at + 1, len(rests)):
            if not rests_agree(kind, one, rests[other]):
                return at, other
    return None


def is_within(kind, number, size):
    """Whether a number is a count less than the size, or a word of at most so many bits."""
    if kind == "hours":
        return 0 <= number < size
    return number.bit_length() <= size


def how_many_keep(kind, rests, size):
    check_kind(kind)
    check_rests(kind, rests)
    check_count(size)
    met = meet_all(kind, rests)
    if met is None or not is_within(kind, met[0], size):
        return 0
    ahead, by = met
    if by == 0:
        return 1
    if kind == "hours":
        return (size - 1 - ahead) // by + 1
    return 1 << max(0, size + 1 - by.bit_length())


def kept_numbered(kind, rests, number):
    check_kind(kind)
    check_rests(kind, rests)
    check_count(number)
    met = meet_all(kind, rests)
    if met is None or met[1] == 0 and (met[0] < 0 or number > 0):
        return None
    return numbered_count(kind, met, number)


def turned_line(kind, line):
    check_kind(kind)
    check_line(kind, line)
    return line[1], line[0], *turn(kind, line[2:])


def joined_line(kind, one, other):
    check_two_lines(kind, one, other)
    if other[0] != one[1] or other[1] == one[0]:
        raise Unlike(other)
    return one[0], other[1], *join(kind, one[2:], other[2:])


def told_between(kind, line, one, other):
    """What a line tells from one unknown to another one, None if it is of other unknowns."""
    if line[:2] == (one, other):
        return line[2:]
    if line[:2] == (other, one):
        return turn(kind, line[2:])
    return None


def met_line(kind, one, other):
    check_two_lines(kind, one, other)
    told = told_between(kind, other, one[0], one[1])
    if told is None:
        raise Unlike(other)
    met = meet(kind, one[2:], told)
    if met is None:
        return None
    return one[0], one[1], *met


def is_weaker(kind, one, other):
    check_two_lines(kind, one, other)
    if other[3] == 1:
        return True
    told = told_between(kind, other, one[0], one[1])
    return told is not None and has_factor(kind, one[3], told[1]) and rests_agree(kind, one[2:], told)
