"""[57] and [58]: the answer that no picks are good, as a tree."""

import itertools
import random
import time
import unittest

from hourrings.choices import all_picks
from hourrings.errors import InvalidPaper, TooMany
from hourrings.rings import all_rings, broken_rings, can_be_kept
from hourrings.shortest import shortest_broken
from hourrings.trees import is_tree, leaves, needed_choices, tree_of_no
from tests.test_choices import BOOK, CHOICE, CHOICES, drawn_many, great_choices, lines_picked
from tests.trying import (BOOKS, KINDS, ODD, THINGS, check_fresh, check_refusals, forms, is_off, is_tried_ring, line_of,
                          sum_of)

NONE = CHOICES[:1] + [[[("a", "c", 0, 4), ("b", "c", 2, 4)]]]
RING = ("ring", [(0, -1), (1, 1), (2, -1)])
TREE = ("fork", 1, [RING])


def is_right(book, choices, value, lot=()):
    """By the words of the point, for a value of the form of a tree."""
    if value[0] == "ring":
        lines = lines_picked(book[1], choices, lot)
        return (is_tried_ring(lines, value[1]) and is_off(book[0], lines, value[1])
                and value[1] == min(forms(value[1])))
    _, number, trees = value
    if number in [choice for choice, _ in lot] or len(trees) != len(choices[number]):
        return False
    return all(is_right(book, choices, tree, (*lot, (number, at))) for at, tree in enumerate(trees))


def tree_by(book, choices, order, lot=()):
    """A right tree with forks on choices in an order, whether they are needed or not."""
    if order:
        number = order[0]
        return ("fork", number, [tree_by(book, choices, order[1:], (*lot, (number, at)))
                                 for at in range(len(choices[number]))])
    return ("ring", shortest_broken((book[0], lines_picked(book[1], choices, lot))))


def count(tree):
    return 1 if tree[0] == "ring" else sum(count(below) for below in tree[2])


def forked(tree):
    return set() if tree[0] == "ring" else {tree[1]}.union(*[forked(below) for below in tree[2]])


def bent(tree, choices):
    """Values that are like a tree, each bent at one place; those below a fork are bent, too."""
    if tree[0] == "ring":
        ring = tree[1]
        for form in forms(ring):
            if form != ring:
                yield ("ring", form)
        yield from [("ring", ring[:-1]), ("ring", ring + ring[:1]), ("ring", []), ("ring", tuple(ring)), ("ring",),
                    ("ring", [list(step) for step in ring]), ["ring", ring], ("Ring", ring), ("ring", ring, []),
                    ("fork", ring), ("ring", ring[0]), ("ring", None), (True, ring), None, ring, ("ring", [ring])]
        return
    _, number, trees = tree
    yield from [("fork", number, trees[:-1]), ("fork", number, trees + trees[-1:]), ("fork", number, []),
                ("fork", number, tuple(trees)), ("fork", number), ("fork", number, trees, []), ["fork", number, trees],
                ("fork", number + 1000, trees), ("fork", -1, trees), ("fork", None, trees), ("fork", str(number), trees),
                ("fork", [number], trees), ("ring", number, trees), ("fork", number, None), (number, trees), trees,
                ("fork", number, {}), ("fork", trees, number), ("Fork", number, trees), (None, number, trees), ("fork", number, [tree for _ in trees])]
    if number < 2:
        yield ("fork", bool(number), trees)
    for at, below in enumerate(trees):
        for value in bent(below, choices):
            yield ("fork", number, trees[:at] + [value] + trees[at + 1:])


class Trees(unittest.TestCase):
    def test_drawn(self):
        seen, sizes = [], []
        for _, book, choices in drawn_many(211, 150):
            good = all_picks(book, choices)
            tree = check_fresh(self, tree_of_no, book, choices)
            self.assertIs(tree is None, good != [])
            seen.append(tree is None)
            if tree is not None:
                self.assertIs(is_right(book, choices, tree), True)
                self.assertIs(is_tree(book, choices, tree), True)
                self.assertEqual(leaves(book, choices, tree), count(tree))
                self.assertEqual(check_fresh(self, needed_choices, book, choices, tree), sorted(forked(tree)))
                sizes.append(count(tree))
                # The other choices are idle: without them there are no good picks either.
                needed = needed_choices(book, choices, tree)
                self.assertEqual(all_picks(book, [choices[number] for number in needed]), [])
        self.assertGreater(min(seen.count(True), seen.count(False)), 40)
        self.assertGreater(len([size for size in sizes if size > 2]), 5)

    def test_forks_in_any_order(self):
        many = 0
        for _, book, choices in drawn_many(212, 80):
            if all_picks(book, choices):
                for tree in (RING, TREE, ("fork", 0, [RING, RING])):
                    self.assertIs(is_tree(book, choices, tree), False)
                continue
            for order in itertools.permutations(range(len(choices))):
                tree = tree_by(book, choices, order)
                self.assertIs(is_tree(book, choices, tree), True)
                self.assertEqual(needed_choices(book, choices, tree), list(range(len(choices))))
                self.assertEqual(leaves(book, choices, tree), count(tree))
                many += 1
        self.assertGreater(many, 60)

    def test_all_rings_at_a_leaf(self):
        for kind in KINDS:
            book = (kind, [("a", "b", 1, 2), ("b", "c", 0, 2)])
            choices = [[[("c", "a", 0, 2), ("a", "c", 0, 2)], [("a", "b", 0, 4)]]]
            rings = [broken_rings((kind, book[1] + lines)) for lines in choices[0]]
            whole = [all_rings((kind, book[1] + lines)) for lines in choices[0]]
            self.assertEqual([len(found) for found in rings + whole], [2, 1, 3, 1])
            for one in whole[0] + whole[1]:
                for other in whole[0] + whole[1]:
                    right = one in rings[0] and other in rings[1]
                    self.assertIs(is_tree(book, choices, ("fork", 0, [("ring", one), ("ring", other)])), right)

    def test_lines_in_the_order_of_the_forks(self):
        for kind in KINDS:
            book = (kind, [])
            choices = [[[("a", "b", 0, 2), ("x", "y", 0, 1)]], [[("a", "b", 1, 2)]]]
            for order, ring in (((0, 1), [(0, -1), (2, 1)]), ((1, 0), [(0, -1), (1, 1)])):
                for told in ([(0, -1), (2, 1)], [(0, -1), (1, 1)]):
                    tree = ("fork", order[0], [("fork", order[1], [("ring", told)])])
                    self.assertIs(is_tree(book, choices, tree), told == ring)
                    self.assertIs(is_tree(book, choices, ("fork", order[0], [("fork", order[0], [("ring", told)])])),
                                  False)

    def test_a_leaf_alone(self):
        for kind in KINDS:
            for choices in ([], [[[]]], CHOICES):
                ring = ("ring", shortest_broken(ODD[kind]))
                self.assertIs(is_tree(ODD[kind], choices, ring), True)
                self.assertEqual([leaves(ODD[kind], choices, ring), needed_choices(ODD[kind], choices, ring)], [1, []])
                tree = tree_of_no(ODD[kind], choices)
                self.assertEqual(tree[0], "ring")
                self.assertIs(is_tree(ODD[kind], choices, tree), True)
            self.assertIsNone(tree_of_no(BOOK[kind], []))
            self.assertIsNone(tree_of_no((kind, []), [[[]]]))
            self.assertIs(is_tree((kind, []), [], ("ring", [])), False)

    def test_bent(self):
        judged = 0
        for _, book, choices in drawn_many(213, 40):
            if all_picks(book, choices):
                continue
            for order in ([], list(range(len(choices))), list(range(len(choices)))[::-1]):
                tree = tree_by(book, choices, order) if order else tree_of_no(book, choices)
                self.assertIs(is_tree(book, choices, tree), True)
                for value in itertools.islice(bent(tree, choices), 400):
                    self.assertIs(is_tree(book, choices, value), False, (book, choices, value))
                    judged += 1
        self.assertGreater(judged, 1000)
        for kind in KINDS:
            for value in THINGS + ["ring", "fork", (), ("ring",), ("fork",), (RING,), [TREE], (TREE,), InvalidPaper(TREE)]:
                for book, choices in ((BOOK[kind], NONE), (ODD[kind], []), (BOOK[kind], [])):
                    self.assertIs(is_tree(book, choices, value), False, value)
                self.assertIs(is_tree(BOOK[kind], NONE, ("fork", 1, [value])), False, value)

    def test_great_trees(self):
        """Each pick of four choices is at odds by a ring of its own; all lines are at the limits."""
        for kind in KINDS:
            begun = time.time()
            names = ["u999", "vvvvvv999", "w", "x", "y0"]
            off, by = (59, 60 * 10 ** 27) if kind == "hours" else (17, 60 << 34)
            choices = []
            for number, size in enumerate((4, 4, 4, 3)):
                choices.append([[("z", "y0", 0, by + 60 * at)] * 5 + [(names[number], names[number + 1], at, by)]
                                for at in range(size)])
            choices += [[[("y0", "z", 0, by + 300)] * 6] for _ in range(4)]
            book = (kind, [("u999", "y0", off, 60)] + [("z", "y0", 0, by)] * 39)
            self.assertEqual(all_picks(book, choices), [])
            tree = tree_of_no(book, choices)
            self.assertIs(is_tree(book, choices, tree), True)
            self.assertEqual(leaves(book, choices, tree), 192)
            self.assertTrue(set(range(4)) <= set(needed_choices(book, choices, tree)))
            self.assertLess(time.time() - begun, 20)

    def test_great_lines(self):
        for kind in KINDS:
            for sizes, shared in (([4, 4, 4, 3, 1, 1, 1, 1], None), ([1, 3, 2, 2, 4, 1, 2, 2], 60)):
                rng = random.Random(215)
                book, choices = great_choices(rng, kind, sizes, shared)
                begun = time.time()
                self.assertIsNone(tree_of_no(book, choices))
                for number in range(8):
                    # Each alternative but the first one of a choice, and all of the last one, tells something else.
                    for at, lines in enumerate(choices[number]):
                        if at > 0 or number == 7:
                            line = rng.choice(book[1])
                            lines[at] = line_of(kind, *line[:2], sum_of(kind, line[2], 1), line[3])
                tree = tree_of_no(book, choices)
                self.assertIs(can_be_kept(book), True)
                self.assertIs(is_tree(book, choices, tree), True)
                self.assertLess(time.time() - begun, 20)

    def test_too_many(self):
        for kind in KINDS:
            for book in (BOOK[kind], ODD[kind]):
                for choices, many in (([[[]] * 201], 201), ([[[]] * 15] * 2, 225)):
                    with self.assertRaises(TooMany) as caught:
                        tree_of_no(book, choices)
                    self.assertEqual(caught.exception.value, many)
            # A tree is judged however many picks there are.
            choices = [[[("b", "a", 0, 2)]] * 15, [[]] * 15]
            tree = ("fork", 0, [("ring", [(0, -1), (1, -1)])] * 15)
            self.assertIs(is_tree(BOOK[kind], choices, tree), True)
            self.assertEqual([leaves(BOOK[kind], choices, tree), needed_choices(BOOK[kind], choices, tree)], [15, [0]])

    def test_refused(self):
        for kind in KINDS:
            both = [("book", BOOK[kind], BOOKS), ("choices", NONE, CHOICE[kind][2])]
            check_refusals(self, is_tree, both + [("value", TREE, [])])
            check_refusals(self, tree_of_no, both)
            wrong = [value for value in bent(TREE, NONE)] + THINGS[:8] + [RING, ("fork", 0, [RING, RING]),
                                                                         ("fork", 1, [TREE])]
            for function in (leaves, needed_choices):
                check_refusals(self, function, both + [("tree", TREE, [(InvalidPaper, wrong)])])


if __name__ == "__main__":
    unittest.main()
