"""[79] to [81]: live books."""

import copy
import random
import time
import unittest

from hourrings.closed import closed
from hourrings.engine import Engine
from hourrings.errors import InvalidDeed, InvalidKind, InvalidLine, NothingToRedo, NothingToUndo, TooMany
from hourrings.given import first_numbers
from hourrings.live import LiveBook, is_deed
from hourrings.rings import can_be_kept, is_broken
from hourrings.shortest import shortest_broken
from hourrings.texts import text_of_book
from tests.test_shortest import many_divisors
from tests.trying import (KINDS, ODD, RIGHT, THINGS, WRONG_KINDS, WRONG_LINES, check_refusals, check_refused, difference,
                          drawn_line, great_book, great_names, great_number, line_of, names_of)

BYS = {"hours": [1, 2, 3, 4, 6, 12, 0], "bits": [1, 2, 3, 4, 6, 12, 0]}
NAMES = ["a", "b", "c", "d9"]


def no_deeds(kind):
    """Values that are no deeds for a live book of two lines in the topmost one of two layers."""
    other = KINDS[1 - KINDS.index(kind)]
    values = THINGS + ["push", "pop", ("push", 1), ("push", ()), ("pop", None), ("push", 1, 2), ("pop", (), ()),
                       ["push"], ["pop"], ("Push",), ("PUSH",),
                       ("undo",), ("redo",), ("line",), ("drop",), ("read",), (None,), (0,), (["push"],), (("push",),),
                       ("push", "push"), ("drop", 2), ("drop", -1), ("drop", True), ("drop", False), ("drop", None),
                       ("drop", "0"), ("drop", [0]), ("drop", (0,)), ("drop", 0, 0), ["drop", 0], ("drop", 10 ** 30),
                       ("drop", RIGHT), ("line", RIGHT, RIGHT), ["line", RIGHT], ("line", [RIGHT]), ("line", (RIGHT,)),
                       ("lines", [RIGHT]), ("line", *RIGHT), ("tell", RIGHT), (RIGHT, "line"), (True, RIGHT), RIGHT,
                       ("line", text_of_book((kind, [RIGHT]))), ("read", ""), ("read", kind), ("read", kind + " \n"),
                       ("read", None), ("read", 0), ("read", []), ("read", (kind, [])), ("read", RIGHT),
                       ("read", text_of_book((kind, [RIGHT]))[:-1]), ("read", text_of_book((kind, [RIGHT])) + "\n"),
                       ("read", other + "\n"), ("read", text_of_book((other, [RIGHT]))), ("read", kind + "\n", 0),
                       ["read", kind + "\n"], ("read", [kind + "\n"]), ("read", kind + "\nb is 2 ahead of a by 2\n"),
                       LiveBook(kind), (LiveBook(kind),), ("line", LiveBook(kind)), ("push", LiveBook(kind)),
                       ("read", LiveBook(kind)), (LiveBook(kind), RIGHT), InvalidDeed(("push",))]
    return values + [("line", line) for line in WRONG_LINES[kind]]


def state(live):
    return [live.kind(), live.layers(), live.book(), live.told(), live.log(), live.can()]


def behind(layers, deed, kind):
    """The layers behind a deed, None if it cannot be done: a model with plain lists."""
    layers = [list(layer) for layer in layers]
    if deed[0] == "push":
        layers.append([])
    elif deed[0] == "pop":
        if len(layers) == 1:
            return None
        layers.pop()
    elif deed[0] == "line":
        layers[-1].append(deed[1])
    elif deed[0] == "drop":
        if deed[1] >= len(layers[-1]):
            return None
        del layers[-1][deed[1]]
    else:
        layers[-1] += deed[2]
    lines = [line for layer in layers for line in layer]
    return layers if len(layers) <= 9 and len(lines) <= 40 and len(names_of(lines)) <= 12 else None


def drawn_deed(rng, kind, names):
    """A deed, and what it tells in full."""
    word = rng.choice(["line"] * 5 + ["drop", "drop", "push", "push", "pop", "read", "read"])
    if word in ("push", "pop"):
        return (word,), (word,)
    if word == "drop":
        deed = (word, rng.randint(0, 4))
        return deed, deed
    lines = [drawn_line(rng, kind, names, BYS[kind]) for _ in range(rng.choice([0, 1, 2, 3, 12]))]
    if word == "line":
        deed = (word, drawn_line(rng, kind, names, BYS[kind]))
        return deed, deed
    return (word, text_of_book((kind, lines))), (word, None, lines)


class Deeds(unittest.TestCase):
    def check(self, live, layers, deeds):
        kind = live.kind()
        lines = [line for layer in layers for line in layer]
        self.assertEqual(live.layers(), layers)
        self.assertEqual(live.book(), (kind, lines))
        self.assertIsInstance(live.book(), tuple)
        self.assertEqual(live.told(), text_of_book((kind, lines)))
        self.assertEqual(live.log(), deeds)

    def test_drawn(self):
        done, refused, undone, redone = 0, 0, 0, 0
        for kind in KINDS:
            rng = random.Random(281)
            for turn in range(60):
                names = NAMES if turn % 3 else great_names(14)
                live = LiveBook(kind)
                # Each state is the layers; at is the place among them, those behind can be done again.
                states, deeds, at = [[[]]], [], 0
                for _ in range(60):
                    way = rng.random()
                    if way < 0.15:
                        if at == 0:
                            self.assertRaises(NothingToUndo, live.undo)
                        else:
                            self.assertIsNone(live.undo())
                            at, undone = at - 1, undone + 1
                    elif way < 0.3:
                        if at == len(deeds):
                            self.assertRaises(NothingToRedo, live.redo)
                        else:
                            self.assertIsNone(live.redo())
                            at, redone = at + 1, redone + 1
                    else:
                        deed, told = drawn_deed(rng, kind, names)
                        layers = behind(states[at], told, kind)
                        self.assertIs(is_deed(live, deed), layers is not None)
                        if layers is None:
                            refused += 1
                            check_refused(self, live.do, InvalidDeed, deed, ["deed"], [deed])
                        else:
                            done += 1
                            self.assertIsNone(live.do(deed))
                            states, deeds, at = states[:at + 1] + [layers], deeds[:at] + [deed], at + 1
                    self.check(live, states[at], deeds[:at])
                self.ended(live, states, deeds, at)
        self.assertGreater(min(done, refused, undone, redone), 100)

    def ended(self, live, states, deeds, at):
        """All is undone, all is done again, and the log makes an equal book."""
        other = LiveBook(live.kind())
        for deed in deeds[:at]:
            other.do(deed)
        self.assertIs(other == live, True)
        while at < len(deeds):
            live.redo()
            at += 1
        self.check(live, states[at], deeds)
        while at > 0:
            live.undo()
            at -= 1
            self.check(live, states[at], deeds[:at])
        self.assertIs(live == LiveBook(live.kind()), True)
        self.assertRaises(NothingToUndo, live.undo)
        for at in range(len(deeds)):
            live.redo()
        self.check(live, states[-1], deeds)
        self.assertRaises(NothingToRedo, live.redo)

    def test_at_first(self):
        for kind in KINDS:
            live = LiveBook(kind)
            self.check(live, [[]], [])
            self.assertEqual([live.can(), live.ring(), live.first(), live.lets(RIGHT)], [True, None, [], True])
            for method, error in ((live.undo, NothingToUndo), (live.redo, NothingToRedo)):
                with self.assertRaises(error) as caught:
                    method()
                self.assertFalse(hasattr(caught.exception, "value"))
            self.assertEqual([is_deed(live, ("pop",)), is_deed(live, ("drop", 0)), is_deed(live, ("push",))],
                             [False, False, True])
            check_refused(self, live.do, InvalidDeed, ("pop",), ["deed"], [("pop",)])
            self.check(live, [[]], [])

    def test_limits(self):
        for kind in KINDS:
            live = LiveBook(kind)
            names = great_names(14)
            for number in range(8):
                live.do(("push",))
            self.assertIs(is_deed(live, ("push",)), False)
            for number in range(11):
                live.do(("line", (names[number], names[number + 1], 0, 2)))
            far = (names[0], names[12], 0, 2)
            self.assertEqual([is_deed(live, ("line", far)), is_deed(live, ("line", (names[12], names[13], 0, 1)))],
                             [False, False])
            self.assertIs(is_deed(live, ("read", text_of_book((kind, [(names[0], names[1], 0, 1)] * 29)))), True)
            self.assertIs(is_deed(live, ("read", text_of_book((kind, [(names[0], names[1], 0, 1)] * 30)))), False)
            self.assertIs(is_deed(live, ("read", text_of_book((kind, [far])))), False)
            for _ in range(29):
                live.do(("line", (names[0], names[1], 0, 1)))
            ahead = state(live)
            for deed in (("line", (names[0], names[1], 0, 1)), ("push",), ("read", text_of_book((kind, [RIGHT]))),
                         ("line", far), ("drop", 40)):
                self.assertIs(is_deed(live, deed), False)
                check_refused(self, live.do, InvalidDeed, deed, ["deed"], [deed])
            self.assertEqual(state(live), ahead)
            self.assertIs(is_deed(live, ("read", kind + "\n")), True)
            # What could not be done can be done when there is room.
            live.do(("drop", 10))
            self.assertEqual([is_deed(live, ("line", far)), is_deed(live, ("push",))], [True, False])
            self.assertIs(is_deed(live, ("line", (names[12], names[13], 0, 2))), False)
            self.assertIs(is_deed(live, ("read", text_of_book((kind, [far, RIGHT])))), False)
            live.do(("line", far))
            self.assertEqual([len(live.book()[1]), len(names_of(live.book()[1]))], [40, 12])
            live.do(("pop",))
            self.assertEqual(live.book(), (kind, []))
            self.assertIs(is_deed(live, ("push",)), True)
            live.undo()
            self.assertEqual([len(live.book()[1]), len(live.layers())], [40, 9])

    def test_judged(self):
        for kind in KINDS:
            live = LiveBook(kind)
            for deed in (("line", RIGHT), ("push",), ("line", ("a", "b", 0, 4)), ("line", ("a", "c", 0, 4))):
                live.do(deed)
            live.do(("line", ("b", "c", 1, 2)))
            live.undo()
            ahead = state(live)
            for value in no_deeds(kind):
                self.assertIs(is_deed(live, value), False, value)
                with self.assertRaises(InvalidDeed) as caught:
                    live.do(value)
                self.assertIs(caught.exception.value, value)
                self.assertEqual(state(live), ahead)
            # What was refused forgets nothing that was undone.
            live.redo()
            self.assertEqual(live.layers()[1][2], ("b", "c", 1, 2))
            for deed in (("push",), ("pop",), ("drop", 0), ("drop", 2), ("line", ("a", "b", 1, 0)), ("read", kind + "\n")):
                self.assertIs(is_deed(live, deed), True)
            for wrong in THINGS + [7, "hours", LiveBook, [live], Engine(kind), (kind, []), InvalidDeed(live)]:
                for value in (("push",), None, wrong):
                    for call in (lambda: is_deed(wrong, value), lambda: is_deed(live=wrong, value=value)):
                        with self.assertRaises(InvalidDeed) as caught:
                            call()
                        self.assertIs(caught.exception.value, wrong)
            self.assertIs(is_deed(value=("push",), live=live), True)

    def test_lists_belong_to_the_caller(self):
        for kind in KINDS:
            live = LiveBook(kind)
            for deed in (("line", RIGHT), ("push",), ("read", text_of_book((kind, [RIGHT])))):
                live.do(deed)
            live.undo()
            ahead = copy.deepcopy(state(live))
            for told in (live.layers(), live.layers()[0], live.book()[1], live.log(), live.first()):
                told.append("bent")
                told.reverse()
                told.clear()
            self.assertEqual(state(live), ahead)
            live.redo()
            self.assertEqual(live.layers(), [[RIGHT], [RIGHT]])
            self.assertIsNot(live.layers()[0], live.layers()[0])


class Equal(unittest.TestCase):
    def test_equal(self):
        text = {kind: text_of_book((kind, [RIGHT])) for kind in KINDS}
        lives = []
        for kind in KINDS:
            line = ("line", RIGHT)
            for log in ([], [line], [line, line], [("push",)], [("push",), line], [line, ("push",)], [("read", text[kind])],
                        [line, ("drop", 0)], [("push",), ("pop",)], [("push",), line, ("pop",)], [line, line, ("drop", 0)],
                        [line, line, ("drop", 1)], [("line", ("b", "a", 0, 2))], [("read", kind + "\n")]):
                live = LiveBook(kind)
                for deed in log:
                    live.do(deed)
                lives.append(live)
        for at, one in enumerate(lives):
            for place, other in enumerate(lives):
                self.assertIs(one == other, at == place)
                self.assertIs(one != other, at != place)
            for thing in THINGS + [one.log(), one.layers(), one.book(), one.told(), Engine(one.kind())]:
                self.assertIs(one == thing, False)
                self.assertIs(thing == one, False)
            again = one.copy()
            again.do(("push",))
            self.assertIs(again == one, False)
            again.undo()
            # What was undone does not count.
            self.assertIs(again == one, True)

    def test_copies(self):
        rng = random.Random(282)
        for kind in KINDS:
            for _ in range(40):
                live = LiveBook(kind)
                for _ in range(12):
                    deed = drawn_deed(rng, kind, NAMES)[0]
                    if is_deed(live, deed):
                        live.do(deed)
                done = len(live.log())
                back = rng.randint(0, done)
                for _ in range(back):
                    live.undo()
                ahead = state(live)
                other = live.copy()
                self.assertIs(other == live, True)
                self.assertEqual(state(other), ahead)
                # The copy can do again and undo just what this one can; each goes its own way.
                for _ in range(back):
                    other.redo()
                self.assertRaises(NothingToRedo, other.redo)
                self.assertEqual(state(live), ahead)
                for _ in range(done):
                    other.undo()
                self.assertRaises(NothingToUndo, other.undo)
                self.assertEqual(state(live), ahead)
                other = live.copy()
                live.do(("push",))
                self.assertRaises(NothingToRedo, live.redo)
                self.assertEqual(state(other), ahead)
                for _ in range(back):
                    other.redo()
                self.assertEqual(len(other.log()), done)


class Asked(unittest.TestCase):
    def test_as_of_the_book(self):
        seen = []
        for kind in KINDS:
            rng = random.Random(283)
            for _ in range(80):
                live = LiveBook(kind)
                for _ in range(rng.randint(0, 14)):
                    deed = drawn_deed(rng, kind, NAMES)[0]
                    if is_deed(live, deed):
                        live.do(deed)
                book, ahead = live.book(), state(live)
                can = can_be_kept(book)
                seen.append(can)
                self.assertIs(live.can(), can)
                self.assertEqual(live.first(), first_numbers(book) if can else None)
                ring = live.ring()
                self.assertIs(ring is None, can)
                if ring is not None:
                    self.assertIs(is_broken(book, ring), True)
                    self.assertEqual(len(ring), len(shortest_broken(book)))
                for _ in range(6):
                    line = drawn_line(rng, kind, NAMES + ["x"], BYS[kind])
                    self.assertIs(live.lets(line), can_be_kept((kind, book[1] + [line])))
                self.assertEqual(state(live), ahead)
                if len(live.layers()) < 9:
                    self.pushed(rng, live)
        self.assertGreater(min(seen.count(True), seen.count(False)), 40)

    def pushed(self, rng, live):
        """Behind a layer that is popped again all is told as it was; more lines never mend a book."""
        kind = live.kind()
        lines = [drawn_line(rng, kind, NAMES, BYS[kind]) for _ in range(5)]
        ahead = [live.can(), live.first(), [live.lets(line) for line in lines], live.ring() is None]
        live.do(("push",))
        for line in lines:
            kept = live.can()
            if is_deed(live, ("line", line)):
                self.assertIs(kept and live.lets(line), live.lets(line))
                lets = live.lets(line)
                live.do(("line", line))
                self.assertIs(live.can(), lets)
        live.do(("pop",))
        self.assertEqual([live.can(), live.first(), [live.lets(line) for line in lines], live.ring() is None], ahead)

    def test_no_further_line(self):
        """Whether a line could be kept is told where none can be put in, too."""
        for kind in KINDS:
            live = LiveBook(kind)
            names = great_names(12)
            lines = [(names[at % 11], names[at % 11 + 1], 1, 4) for at in range(40)]
            live.do(("read", text_of_book((kind, lines))))
            for line, right in (((names[0], names[1], 1, 8), True), ((names[0], names[1], 0, 8), False),
                                (("x", "y", 7, 0), True), ((names[0], "x", 0, 4), True)):
                self.assertIs(is_deed(live, ("line", line)), False)
                self.assertIs(live.lets(line), right)

    def test_great(self):
        begun = time.time()
        for kind in KINDS:
            rng = random.Random(284)
            book = many_divisors(kind, 300)
            told = {name: great_number(rng, kind) for name in names_of(book[1])}
            lines = [line_of(kind, one, other, difference(kind, told[other], told[one]), by) for one, other, _, by in book[1]]
            live = LiveBook(kind)
            live.do(("read", text_of_book((kind, lines))))
            self.assertEqual([live.can(), live.ring(), live.first()], [True, None, first_numbers((kind, lines))])
            more = many_divisors(kind, 301)
            live.do(("push",))
            for number in reversed(range(len(lines))):
                self.assertIs(is_deed(live, ("drop", number)), False)
            other = LiveBook(kind)
            other.do(("read", text_of_book(more)))
            with self.assertRaises(TooMany) as caught:
                other.ring()
            self.assertEqual(caught.exception.value, 301)
            self.assertIs(other.can(), True)
            for shared in (0, 1, 60):
                book = great_book(rng, kind, shared)
                live = LiveBook(kind)
                for at, line in enumerate(book[1]):
                    live.do(("line", line))
                    if at % 5 == 4 and at < 39:
                        live.do(("push",))
                self.assertEqual([live.can(), live.first()], [True, first_numbers(book)])
                one, other_name, ahead, by = book[1][30]
                self.assertIs(live.lets((one, other_name, ahead, by)), True)
                self.assertEqual(live.told(), text_of_book(book))
                for _ in range(47):
                    live.undo()
                self.assertIs(live == LiveBook(kind), True)
        self.assertLess(time.time() - begun, 20)

    def test_refused(self):
        for kind in KINDS:
            check_refusals(self, LiveBook, [("kind", kind, [(InvalidKind, WRONG_KINDS)])])
            live = LiveBook(kind=kind)
            live.do(deed=("line", RIGHT))
            live.do(deed=("read", text_of_book(ODD[kind])))
            ahead = state(live)
            for wrong in WRONG_LINES[kind]:
                check_refused(self, live.lets, InvalidLine, wrong, ["line"], [wrong])
            self.assertEqual(state(live), ahead)
            self.assertIs(live.lets(line=RIGHT), False)
            live.undo()
            self.assertIs(live.lets(line=("a", "b", 0, 4)), True)
            self.assertEqual(closed(live.book()), [RIGHT])


if __name__ == "__main__":
    unittest.main()
