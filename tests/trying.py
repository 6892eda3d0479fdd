"""What the tests share: reckoning by trying, drawn books, and checks of refusals and of returned lists."""

import copy
import itertools
import math
import random

from hourrings import errors

KINDS = ("hours", "bits")


# Numbers of both kinds, reckoned another way than the package does.

def bits_times(one, other):
    total = 0
    for place in range(other.bit_length()):
        if other >> place & 1:
            total ^= one << place
    return total


def bits_rest(one, by):
    for place in reversed(range(max(0, one.bit_length() - by.bit_length() + 1))):
        if one >> (place + by.bit_length() - 1) & 1:
            one ^= by << place
    return one


def bits_gcd(one, other):
    return one if other == 0 else bits_gcd(other, bits_rest(one, other))


def sum_of(kind, one, other):
    return one + other if kind == "hours" else one ^ other


def difference(kind, one, other):
    return one - other if kind == "hours" else one ^ other


def times(kind, one, other):
    return one * other if kind == "hours" else bits_times(one, other)


def rest_of(kind, one, by):
    if by == 0:
        return one
    return one % by if kind == "hours" else bits_rest(one, by)


def goes_into(kind, by, one):
    return rest_of(kind, one, by) == 0


def gcd_of(kind, one, other):
    return math.gcd(one, other) if kind == "hours" else bits_gcd(one, other)


def lcm_of(kind, one, other):
    """The least number above 0, of those that both go into; 0 if one of them is 0."""
    if kind == "hours":
        return math.lcm(one, other)
    if one == 0 or other == 0:
        return 0
    upper, by = bits_times(one, other), bits_gcd(one, other)
    quotient = 0
    while upper:
        quotient |= 1 << upper.bit_length() - by.bit_length()
        upper ^= by << upper.bit_length() - by.bit_length()
    return quotient


def keeps_line(kind, line, told):
    one, other, ahead, by = line
    return goes_into(kind, by, difference(kind, told[other], sum_of(kind, ahead, told[one])))


def line_of(kind, one, other, ahead, by):
    return (one, other, rest_of(kind, ahead, by), by)


def names_of(lines):
    return sorted({name for line in lines for name in line[:2]})


# Numbers that are tried.

def tried(kind, lines, names, span):
    """All dicts of numbers in a span that keep the lines; the first name has 0, as only differences are told."""
    found = [{}]
    for name in names:
        grown = []
        for told in found:
            for number in (span if told else [0]):
                row = {**told, name: number}
                ready = [line for line in lines if name in line[:2] and line[0] in row and line[1] in row]
                if all(keeps_line(kind, line, row) for line in ready):
                    grown.append(row)
        found = grown
    return found


def tried_line(kind, rows, one, other):
    """The strongest line of two names that all tried rows keep: there must be rows all over the span."""
    told = [difference(kind, row[other], row[one]) for row in rows]
    by = 0
    for item in told:
        by = gcd_of(kind, by, difference(kind, item, told[0]))
    return line_of(kind, one, other, told[0], by)


# Small drawn books. Their numbers are such that a short span has all that is to be tried.

HOUR_BYS = [[1, 2, 3, 6, 0], [2, 4, 1, 0], [2, 4, 6, 12, 3], [4, 8, 2, 1], [3, 9, 0, 1], [6, 4, 3]]
BIT_BYS = [[1, 2, 3, 6, 0], [2, 4, 1, 0], [3, 5, 15, 1], [7, 2, 14, 0], [4, 6, 2, 12], [3, 6, 5]]
SPANS = {"hours": range(-36, 37), "bits": range(64)}


def drawn_line(rng, kind, names, bys):
    one, other = rng.sample(names, 2)
    by = rng.choice(bys)
    if by == 0:
        return (one, other, rng.randint(-3, 3) if kind == "hours" else rng.randrange(4), 0)
    return line_of(kind, one, other, rng.randrange(by), by)


def drawn_book(rng, kind, names, most):
    bys = rng.choice(HOUR_BYS if kind == "hours" else BIT_BYS)
    return (kind, [drawn_line(rng, kind, names, bys) for _ in range(rng.randint(0, most))])


def told_book(rng, kind, names, most):
    """A drawn book whose lines some numbers keep."""
    bys = rng.choice(HOUR_BYS if kind == "hours" else BIT_BYS)
    told = {name: rng.randrange(4) for name in names}
    lines = []
    for _ in range(rng.randint(0, most)):
        one, other, _, by = drawn_line(rng, kind, names, bys)
        lines.append(line_of(kind, one, other, difference(kind, told[other], told[one]), by))
    return (kind, lines)


def tried_books(seed, many, most=5):
    """Drawn books that can be kept, with all rows of a span that keep them; exact lines are among them."""
    rng = random.Random(seed)
    for kind in KINDS:
        for _ in range(many):
            book = told_book(rng, kind, ["a", "b", "c"], most)
            yield rng, book, tried(kind, book[1], names_of(book[1]), SPANS[kind])


def tried_closed(kind, lines, rows):
    found = [tried_line(kind, rows, one, other) for one, other in itertools.combinations(names_of(lines), 2)]
    return [line for line in found if line[3] != 1]


def great_names(many):
    return [letter * 6 + "999" for letter in "abcdefghijklmnopqrstuvwxyz"[:many]]


def great_number(rng, kind):
    """A number of as many figures, or bits, as a book may have."""
    return rng.randrange(10 ** 29, 10 ** 30) if kind == "hours" else rng.getrandbits(40) | 1 << 39


def great_book(rng, kind, shared, many=40):
    """A book at the limits that can be kept; all its bys are multiples of a shared one."""
    names = great_names(12)
    told = {name: great_number(rng, kind) for name in names}
    lines = []
    for at in range(many):
        one, other = (names[at], names[at + 1]) if at < 11 else rng.sample(names, 2)
        by = shared
        while rng.random() < 0.8:
            more = times(kind, by, rng.randrange(2, 40))
            if more >= (10 ** 30 if kind == "hours" else 2 ** 40):
                break
            by = more
        lines.append(line_of(kind, one, other, difference(kind, told[other], told[one]), by))
    return (kind, lines)


# Rings and lots that are gone through.

def steps_ends(lines, steps):
    return [lines[number][:2] if way == 1 else lines[number][1::-1] for number, way in steps]


def is_tried_ring(lines, steps):
    ends = steps_ends(lines, steps)
    begins = [begin for begin, _ in ends]
    if len(steps) < 2 or len(set(begins)) < len(steps) or len({number for number, _ in steps}) < len(steps):
        return False
    return all(ends[at - 1][1] == ends[at][0] for at in range(len(steps)))


def forms(ring):
    back = [(number, -way) for number, way in reversed(ring)]
    return [form[at:] + form[:at] for form in (ring, back) for at in range(len(ring))]


def tried_rings(lines):
    """All rings in the first of their forms, in order: all rows of steps are gone through."""
    found = []
    for many in range(2, len(names_of(lines)) + 1):
        for numbers in itertools.permutations(range(len(lines)), many):
            if numbers[0] != min(numbers):
                continue
            for ways in itertools.product((-1, 1), repeat=many):
                steps = list(zip(numbers, ways))
                if ways[0] == -1 and is_tried_ring(lines, steps):
                    found.append(min(forms(steps)))
    return sorted(found)


def sum_and_divisor(kind, lines, steps):
    total, by = 0, 0
    for number, way in steps:
        one = lines[number][2]
        total = sum_of(kind, total, one) if way == 1 else difference(kind, total, one)
        by = gcd_of(kind, by, lines[number][3])
    return total, by


def is_off(kind, lines, steps):
    total, by = sum_and_divisor(kind, lines, steps)
    return not goes_into(kind, by, total)


def lots(many):
    return [list(lot) for size in range(many + 1) for lot in itertools.combinations(range(many), size)]


# Books that no numbers keep.
ODD = {"hours": ("hours", [("a", "b", 3, 12), ("b", "c", 5, 18), ("a", "c", 1, 4)]),
       "bits": ("bits", [("a", "b", 1, 6), ("b", "c", 2, 10), ("a", "c", 0, 2)])}


# Refusals.

def check_refusals(test, function, parameters):
    """Each parameter is a tuple (name, a good value, a list of tuples (error, wrong values))."""
    names = [name for name, _, _ in parameters]
    goods = [good for _, good, _ in parameters]
    first_wrongs = [refusals[0][1][0] if refusals else good for _, good, refusals in parameters]
    function(*goods)
    function(**dict(zip(names, goods)))
    for at, (_, _, refusals) in enumerate(parameters):
        for error, wrongs in refusals:
            for wrong in wrongs:
                for behind in (goods, first_wrongs):
                    values = goods[:at] + [wrong] + behind[at + 1:]
                    check_refused(test, function, error, wrong, names, values)


def check_refused(test, function, error, field, names, values):
    ahead = copy.deepcopy(values)
    for call in (lambda: function(*values), lambda: function(**dict(zip(names, values)))):
        with test.assertRaises(errors.HourError, msg=(function, values)) as caught:
            call()
        test.assertIs(type(caught.exception), error, (function, values))
        test.assertIs(caught.exception.value, field, (function, values))
        # Errors of the package are equal to themselves alone, so their copies are told by their texts.
        test.assertEqual(repr(values), repr(ahead))


def check_at_odds(test, function, parameters, field=None):
    """AtOdds is told with the book at odds, or the field, behind all wrong values of other parameters.

    The parameters are as for check_refusals, but their good values are such that the call is at odds.
    """
    names = [name for name, _, _ in parameters]
    goods = [good for _, good, _ in parameters]
    ahead = copy.deepcopy(goods)
    for call in (lambda: function(*goods), lambda: function(**dict(zip(names, goods)))):
        with test.assertRaises(errors.AtOdds, msg=(function, goods)) as caught:
            call()
        if field is None:
            test.assertIs(caught.exception.value, goods[0])
        else:
            test.assertEqual(caught.exception.value, field)
    test.assertEqual(goods, ahead)
    for at, (_, _, refusals) in enumerate(parameters):
        for error, wrongs in refusals:
            for wrong in wrongs:
                check_refused(test, function, error, wrong, names, goods[:at] + [wrong] + goods[at + 1:])


# Returned values.

def lists_in(value):
    if isinstance(value, list):
        return [value] + [deep for item in value for deep in lists_in(item)]
    if isinstance(value, tuple):
        return [deep for item in value for deep in lists_in(item)]
    return []


def check_fresh(test, function, *values):
    """A call changes nothing, shares no list, and may be asked again however its answer was changed."""
    ahead = copy.deepcopy(values)
    answer = function(*values)
    kept = copy.deepcopy(answer)
    returned = [id(item) for item in lists_in(answer)]
    test.assertEqual(len(set(returned)), len(returned), (function, values))
    test.assertFalse(set(returned) & {id(item) for item in lists_in(values)}, (function, values))
    for item in lists_in(answer):
        item.append("bent")
    test.assertEqual(values, ahead, function)
    again = function(*values)
    test.assertEqual(again, kept, function)
    return again


# Values of wrong kinds and forms.

THINGS = [None, True, False, "", "a", [], (), {}, {"a": 1}, [[]], ((),), [None], errors.InvalidLine(3)]
WRONG_KINDS = [None, True, 0, "", "hour", "Hours", "bits ", "hours\n", ["hours"], ("bits",), {"hours": 1},
               errors.InvalidKind("hours")]
NO_NUMBERS = [None, True, False, "1", "", [1], (1,), {1: 1}, errors.InvalidNumber(1)]
WRONG_NUMBERS = {"hours": NO_NUMBERS, "bits": NO_NUMBERS + [-1, -10 ** 30]}
NO_COUNTS = NO_NUMBERS + [-1, -10 ** 30]
WRONG_NAMES = [None, True, 1, "", "A", "aB", "a00", "a01", "a007", "a1000", "abcdefg", "abcdefg1", "a b", "a\n", "\na",
               " a", "1", "0a", "a1b", "a-1", "a_", ["a"], ("a",), {"a": 1}, "\u00e9", "a\u0661", "a\u00b2"]
WRONG_NAMES_LISTS = [None, True, "a", "ab", ("a", "b"), {"a": 1}, ["b", "a"], ["a", "a"], ["a", "a00"], ["a", 1],
                     [["a"]], [("a",)], ["a10", "a2", "a1"], ["A"], [""]]
NO_LINES = [None, True, 0, "", "abcd", (), [], ("a", "b", 1), ("a", "b", 1, 2, 3), ["a", "b", 1, 2],
            (("a", "b", 1, 2),), [("a", "b", 1, 2)], ("a", "a", 1, 2), ("a", "b", 2, 2), ("a", "b", 1, 1),
            ("a", "b", -1, 2), ("a", "b", 1, -2), ("a", "b", True, 2), ("a", "b", 0, True), ("a", "b", False, 0),
            ("a", "b", "1", 2), ("a", "b", 1, "2"), ("a", "b", 1, None), ("a", "b", [1], 2), ("A", "b", 1, 2),
            ("a", "b00", 1, 2), (1, "b", 1, 2), ("a", None, 1, 2), (["a"], "b", 1, 2), {"a": 1}]
WRONG_LINES = {"hours": NO_LINES + [("a", "b", 12, 12), ("a", "b", 5, 3), ("a", "b", 0, -1)],
               "bits": NO_LINES + [("a", "b", 4, 5), ("a", "b", 7, 5), ("a", "b", -7, 0), ("a", "b", 2, 3)]}
RIGHT = ("a", "b", 0, 2)
WRONG_LINES_LISTS = {kind: [None, True, 0, "", "ab", RIGHT, (RIGHT,), {"a": RIGHT}, [RIGHT, list(RIGHT)], [[RIGHT]],
                            [RIGHT, None], (), ("hours", [])] + [[RIGHT, line] for line in WRONG_LINES[kind]]
                     for kind in KINDS}
WRONG_BOOKS = [None, True, 0, "", "hours", (), [], ("hours",), ("hours", [], []), ["hours", []], ("hours", ()),
               ("Hours", []), (True, []), (None, []), ("hours", None), ("hours", {}), ([], "hours"), (("hours", []),),
               ("hours", RIGHT), ("hours", [[RIGHT]]), ("hours", (RIGHT,)), ("bits", [("a", "b", -7, 0)]),
               ("bits", [("a", "b", 4, 5)]), ("hours", [RIGHT, ("a", "b", 3, 2)]), (["hours"], []), {"hours": []}]
WRONG_BOOKS += [("hours", [RIGHT, line]) for line in WRONG_LINES["hours"]]
BOOKS = [(errors.InvalidBook, WRONG_BOOKS)]
NO_NUMBERS_OF = [None, True, 0, "", "ab", (), {"a": 1}, (("a", 1), ("b", 2)), [("b", 1), ("a", 2)],
                 [("a", 1), ("a", 2)], [["a", 1], ["b", 2]], [("a", 1, 1), ("b", 2)], [("a",), ("b", 2)],
                 [("a", True), ("b", 2)], [("a", 1), ("b", None)], [("a", "1"), ("b", 2)], [("A", 1), ("b", 2)],
                 [(1, "a"), ("b", 2)], [[("a", 1), ("b", 2)]], ["a", "b"], [("a", 1), ("b", [2])], [("a", 1), None],
                 [("a", 1), ("a01", 2), ("b", 2)]]
WRONG_NUMBERS_OF = {"hours": NO_NUMBERS_OF, "bits": NO_NUMBERS_OF + [[("a", -1), ("b", 2)], [("a", 1), ("b", -2)]]}
