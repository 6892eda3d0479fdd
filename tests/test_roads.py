"""Over the whole program: one book is told alike by all roads."""

import itertools
import random
import unittest

from hourrings.bells import can_strike, hour_line
from hourrings.books import is_keeping, unkept
from hourrings.choices import all_picks, barred_lots, common_line, follows_all, is_barred
from hourrings.closed import closed, closed_line, closed_with, follows, news_of, two_rows
from hourrings.engine import told_all
from hourrings.errors import AtOdds
from hourrings.follows import are_equal, weight, worth, worths
from hourrings.forgetting import forgotten, is_silent, told_of
from hourrings.given import first_numbers, first_with, goes_on, rest_given
from hourrings.levels import divisors_of, first_bad_level, hung, level_ring, shortest_by_levels, told_by_levels
from hourrings.live import LiveBook
from hourrings.middles import can_be_kept_along, carried, least_middle, strongest_middle
from hourrings.papers import is_never_paper, is_paper_for, never_paper, odds_paper, paper_for, ring_of_odds, told_lines
from hourrings.parts import (fewest_giving, greatest_parts, is_giving, is_part, least_givings, lightest_giving, part_by,
                             staying)
from hourrings.plain import barring_way, plain_odds
from hourrings.rests import met_rests, turned_line
from hourrings.rings import all_rings, broken_rings, can_be_kept, is_broken, way_line
from hourrings.rows import all_rows, how_many_rows, keeps_row, least_period, row_numbered
from hourrings.shortest import cores, quiet_lines, shortest_broken
from hourrings.texts import book_of_text, text_of_book
from hourrings.torn import good_part, joined_books
from hourrings.trees import is_tree, tree_of_no
from tests.test_rings import is_tried_way, rows_of_steps
from tests.trying import KINDS, difference, drawn_book, drawn_line, names_of, rest_of, told_book

BYS = [0, 1, 2, 3, 4, 6, 12]


def small_books(seed, many, most=6):
    rng = random.Random(seed)
    for kind in KINDS:
        for at in range(many):
            names = ["a", "b", "c", "d"][:rng.choice([2, 3, 3, 4])]
            yield rng, (told_book if at % 2 else drawn_book)(rng, kind, names, most)


def live_of(rng, book):
    """A live book of the lines of a book, in drawn layers."""
    live = LiveBook(book[0])
    for line in book[1]:
        if rng.random() < 0.3:
            live.do(("push",))
        live.do(rng.choice([("line", line), ("read", text_of_book((book[0], [line])))]))
    return live


def is_at_odds(function, *values):
    try:
        function(*values)
    except AtOdds:
        return True
    return False


class Kept(unittest.TestCase):
    def test_all_roads(self):
        seen = []
        for rng, book in small_books(291, 160):
            kind, lines = book
            can = can_be_kept(book)
            seen.append(can)
            cut = rng.randint(0, len(lines))
            parts = [(kind, lines[:cut]), (kind, lines[cut:])]
            engine, left = told_all(kind, lines)
            live = live_of(rng, book)
            roads = [
                broken_rings(book) == [],
                shortest_broken(book) is None,
                cores(book) == [],
                quiet_lines(book) == list(range(len(lines))),
                odds_paper(book) is None,
                plain_odds(book) is None,
                first_bad_level(book) is None,
                shortest_by_levels(book) is None,
                all(hung(book, d) is not None and level_ring(book, d) is None for d in divisors_of(book)),
                left == [],
                engine.lines() == lines,
                live.can(),
                live.ring() is None,
                live.first() is not None,
                not is_at_odds(closed, book),
                not is_at_odds(first_numbers, book),
                not is_at_odds(told_of, book, ["a"]),
                not is_at_odds(forgotten, book, ["a"]),
                all_picks(book, []) == [[]],
                all_picks((kind, []), [[lines]]) == [[0]],
                barred_lots(book, []) == [],
                not is_barred((kind, []), [[[line]] for line in lines], [(at, 0) for at in range(len(lines))]),
                tree_of_no(book, []) is None,
                tree_of_no((kind, []), [[[line]] for line in lines]) is None,
                least_givings(book) == [[]],
                greatest_parts(book) == [list(range(len(lines)))],
                is_giving(book, []),
                is_part(book, list(range(len(lines)))),
                fewest_giving(book) == [],
                lightest_giving(book, [1] * len(lines)) == ([], 0),
                part_by(book, list(range(len(lines)))) == list(range(len(lines))),
                can_be_kept_along(parts),
                can_be_kept(joined_books(*parts)),
                can_be_kept(book_of_text(text_of_book(book))),
                can_be_kept(good_part(text_of_book(book) + "torn")[0]),
            ]
            self.assertEqual(roads, [can] * len(roads), book)
            if kind == "hours":
                self.assertIs(not is_at_odds(can_strike, book, []), can)
            if all(can_be_kept(part) for part in parts):
                self.assertIs(strongest_middle(*parts) is None, can)
                self.assertIs(least_middle(*parts) is None, can)
            if lines:
                self.assertIn(staying(book, 0), least_givings(book))
        self.assertGreater(min(seen.count(True), seen.count(False)), 60)

    def test_all_rings_tell_the_same(self):
        """Of a book at odds, each road comes to a broken ring of it."""
        odd = 0
        for rng, book in small_books(292, 200):
            kind, lines = book
            broken = broken_rings(book)
            if can_be_kept(book):
                continue
            odd += 1
            fewest = min(len(ring) for ring in broken)
            self.assertIn(ring_of_odds(book, odds_paper(book)), broken)
            self.assertIn(ring_of_odds(book, plain_odds(book)), broken)
            self.assertIn(tree_of_no(book, [])[1], broken)
            self.assertIs(is_tree(book, [], ("ring", broken[-1])), True)
            for ring in (shortest_broken(book), shortest_by_levels(book)[1], live_of(rng, book).ring()):
                self.assertIs(is_broken(book, ring), True)
                self.assertEqual(len(ring), fewest)
            left = told_all(kind, lines)[1]
            self.assertNotEqual(left, [])
            self.assertEqual([at for at in range(len(lines)) if at not in left], part_by(book, list(range(len(lines)))))
            tree = tree_of_no((kind, []), [[[line]] for line in lines])
            self.assertIs(is_tree((kind, []), [[[line]] for line in lines], tree), True)
            self.assertEqual(len(all_rings(book)) >= len(broken), True)
        self.assertGreater(odd, 60)


class Told(unittest.TestCase):
    def test_closed_lines(self):
        told = 0
        for rng, book in small_books(293, 60):
            kind, lines = book
            if not can_be_kept(book):
                continue
            engine = told_all(kind, rng.sample(lines, len(lines)))[0]
            ways = [steps for steps in rows_of_steps(lines, 3) if is_tried_way(lines, steps)] if len(lines) < 5 else None
            for one, other in itertools.permutations(names_of(lines), 2):
                line = closed_line(book, one, other)
                told += line[3] != 1
                rests = [way_line(book, way)[2:] for way in ways or [] if way_line(book, way)[:2] == (one, other)]
                found = [
                    turned_line(kind, closed_line(book, other, one)),
                    told_by_levels(book, one, other),
                    engine.strongest(one, other),
                    common_line(book, [], one, other),
                    common_line((kind, []), [[[told_line]] for told_line in lines], one, other),
                    (one, other, *rest_given(book, [(one, 0)], other)),
                    told_lines(book, paper_for(book, line))[-1],
                    closed_line((kind, closed(book)), one, other),
                    closed_line(told_of(book, sorted([one, other])), one, other),
                ]
                if ways is not None and len(names_of(lines)) <= 4:
                    found.append((one, other, *met_rests(kind, rests)))
                if kind == "hours" and line[3] > 0:
                    # A bell of the one, at each hour that its number may be, is behind the other one as the line tells.
                    found.append((one, other, *turned(hour_line(book, [(one, 0, line[3])], other), line[3])))
                self.assertEqual(found, [line] * len(found), (book, one, other))
            self.assertEqual([line for line in closed(book)], engine_lines(engine, lines))
            self.assertIs(are_equal(book, (kind, closed(book))), True)
            if lines:
                self.assertEqual(closed_with((kind, lines[:-1]), lines[-1]), closed(book))
        self.assertGreater(told, 150)

    def test_lines(self):
        seen = []
        for rng, book in small_books(294, 60):
            kind, lines = book
            if not can_be_kept(book):
                continue
            engine, live = told_all(kind, lines)[0], live_of(rng, book)
            for _ in range(12):
                line = drawn_line(rng, kind, (names_of(lines) + ["x", "y"])[:5], BYS)
                news = news_of(book, line)
                seen.append(news)
                sure = [follows(book, line), paper_for(book, line) is not None, follows_all(book, [], line),
                        worth(book, line) == 1, are_equal(book, (kind, lines + [line])) if news != "never" else False,
                        two_rows(book, line)[1] is None]
                if news != "never" and all(name in names_of(lines) for name in line[:2]):
                    sure.append(is_silent((kind, [line]), book))
                self.assertEqual(sure, [news == "sure"] * len(sure), (book, line))
                never = [not can_be_kept((kind, lines + [line])), never_paper(book, line) is not None,
                         barring_way(book, line) is not None, closed_with(book, line) is None, not live.lets(line),
                         worth(book, line) is None, two_rows(book, line)[0] is None,
                         is_barred(book, [[[line]]], [(0, 0)]), strongest_middle(book, (kind, [line])) is not None]
                self.assertEqual(never, [news == "never"] * len(never), (book, line))
                self.assertEqual(engine.judged(line), news)
                if news == "sure":
                    self.assertIs(is_paper_for(book, line, paper_for(book, line)), True)
                if news == "never":
                    self.assertIs(is_never_paper(book, line, never_paper(book, line)), True)
        self.assertGreater(min(seen.count(item) for item in ("sure", "never", "open")), 60)

    def test_numbers(self):
        rows_found = 0
        for rng, book in small_books(295, 100, 4):
            kind, lines = book
            if not can_be_kept(book):
                continue
            numbers = first_numbers(book)
            self.assertIs(is_keeping(book, numbers), True)
            self.assertEqual(unkept(book, numbers), [])
            self.assertEqual([live_of(rng, book).first(), first_with(book, []), first_with(book, numbers)], [numbers] * 3)
            self.assertEqual(first_with(book, numbers[:1]), numbers)
            self.assertIs(goes_on(book, numbers[1:]), True)
            names = names_of(lines)
            if names:
                # What is forgotten is not missed: the numbers of the others go on to the same.
                less = forgotten(book, names[-1:])
                told = [item for item in numbers if item[0] in names_of(less[1])]
                self.assertIs(is_keeping(less, told), True)
                self.assertEqual(worths(book, list(range(len(lines)))) != [], lines != [])
            period = least_period(book)
            if all(line[3] for line in lines):
                row = [number for _, number in numbers]
                self.assertEqual(row_numbered(book, period, 0), row)
                self.assertIs(keeps_row(book, period, row), True)
                many = how_many_rows(book, period)
                if many <= 300:
                    rows_found += 1
                    self.check_rows(book, all_rows(book, period))
                if kind == "hours":
                    self.assertEqual(many * weight(book), period ** len(names))
        self.assertGreater(rows_found, 30)

    def check_rows(self, book, rows):
        """The closed lines are just what all rows have in common."""
        kind, lines = book
        names = names_of(lines)
        for (at, one), (place, other) in itertools.combinations(enumerate(names), 2):
            line = closed_line(book, one, other)
            off = {rest_of(kind, difference(kind, row[place], row[at]), line[3]) for row in rows}
            self.assertEqual(off, {line[2]})
            by = least_period(book)
            for row in rows:
                by = self.common(kind, by, difference(kind, difference(kind, row[place], row[at]), line[2]))
            self.assertEqual(by, line[3])

    def common(self, kind, one, other):
        while other != 0:
            one, other = other, rest_of(kind, one, abs(other))
        return abs(one)

    def test_along(self):
        """What is carried along a row of books is what the books up to there tell of the names that go on."""
        for rng, book in small_books(296, 80):
            kind, lines = book
            if not can_be_kept(book):
                continue
            cuts = sorted(rng.randint(0, len(lines)) for _ in range(3))
            books = [(kind, lines[begin:end]) for begin, end in zip([0] + cuts, cuts + [len(lines)])]
            for at, told in enumerate(carried(books)):
                begun = (kind, lines[:([0] + cuts)[at + 1]])
                going_on = names_of([line for behind in books[at + 1:] for line in behind[1]])
                self.assertEqual(told, told_of(begun, going_on))


def turned(told, by):
    """The rest of the opposite, as the bell of an unknown tells how far its hour is behind another one."""
    ahead, other_by = told
    return (-ahead) % other_by, other_by


def engine_lines(engine, lines):
    """The closed lines that an engine tells of all two names."""
    found = [engine.strongest(one, other) for one, other in itertools.combinations(names_of(lines), 2)]
    return [line for line in found if line[3] != 1]


if __name__ == "__main__":
    unittest.main()
