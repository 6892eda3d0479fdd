"""Trees: the answer that no picks are good, told by cases and by one broken ring in each of them."""

from hourrings.choices import check_choices, check_how_many, good_picks, names_of_all
from hourrings.closed import blank_table, told_beside
from hourrings.errors import InvalidPaper
from hourrings.kinds import is_whole
from hourrings.plain import ring_refused, told_on
from hourrings.rings import ring_fits, ring_is_broken, told_form


def leaf_fits(kind, lines, value):
    """Whether a value is a broken ring, in its told form, of the lines of a leaf."""
    return ring_fits(lines, value) and told_form(value) == value and ring_is_broken(kind, lines, value)


def tree_fits(kind, lines, choices, left, value):
    """Whether a value is a right tree behind lines, with forks on choices that are left alone."""
    if not isinstance(value, tuple) or len(value) < 2:
        return False
    if value[0] == "ring":
        return len(value) == 2 and leaf_fits(kind, lines, value[1])
    if value[0] != "fork" or len(value) != 3:
        return False
    number, trees = value[1:]
    if not is_whole(number) or number not in left:
        return False
    if not isinstance(trees, list) or len(trees) != len(choices[number]):
        return False
    others = [other for other in left if other != number]
    for more, tree in zip(choices[number], trees):
        if not tree_fits(kind, lines + more, choices, others, tree):
            return False
    return True


def is_right(book, choices, value):
    """Whether a value is a right tree of choices that may be any value."""
    check_choices(book, choices)
    return tree_fits(book[0], book[1], choices, list(range(len(choices))), value)


def check_tree(book, choices, tree):
    if not is_right(book, choices, tree):
        raise InvalidPaper(tree)


def tree_behind(kind, lines, tables, more, choices, left):
    """The right tree behind lines that can be kept, and more of them, with forks on what is left, in this order.

    The tables are what the lines tell of each two names by themselves, and their closed table.
    """
    told, closed = tables
    many, grown = told_on(kind, closed, more)
    told = told_beside(kind, told, more[:many])
    going = lines + more
    if many < len(more):
        refused = more[many]
        ahead = going[:len(lines) + many]
        return "ring", ring_refused(kind, ahead, told, refused, grown[refused[:2]])
    number = left[0]
    trees = [tree_behind(kind, going, (told, grown), behind, choices, left[1:]) for behind in choices[number]]
    return "fork", number, trees


def forks(tree):
    """The numbers of the choices of all forks of a tree."""
    if tree[0] == "ring":
        return []
    return [tree[1]] + [number for below in tree[2] for number in forks(below)]


def count_leaves(tree):
    if tree[0] == "ring":
        return 1
    return sum([count_leaves(below) for below in tree[2]])


def is_tree(book, choices, value):
    return is_right(book, choices, value)


def tree_of_no(book, choices):
    check_choices(book, choices)
    check_how_many(choices)
    kind, lines = book
    if good_picks(kind, lines, choices):
        return None
    # Forks with few trees come first: so the tree stays small.
    order = sorted([(len(choice), number) for number, choice in enumerate(choices)])
    tables = (blank_table(names_of_all(lines, choices)), {})
    return tree_behind(kind, [], tables, lines, choices, [number for _, number in order])


def leaves(book, choices, tree):
    check_tree(book, choices, tree)
    return count_leaves(tree)


def needed_choices(book, choices, tree):
    check_tree(book, choices, tree)
    return sorted(set(forks(tree)))
