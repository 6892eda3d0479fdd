"""[43] to [47]: an engine."""

import copy
import itertools
import random
import time
import unittest

from hourrings import errors
from hourrings.closed import closed, closed_line, follows, news_of
from hourrings.engine import Engine, is_log, new_lines, plain_log, replayed, same_answers, told_all
from hourrings.errors import (InvalidBook, InvalidDeed, InvalidKind, InvalidLine, InvalidLines, InvalidName,
                              NothingToUndo, Unlike)
from hourrings.rings import can_be_kept, is_broken, is_ring, told_ring
from tests.trying import (KINDS, THINGS, WRONG_KINDS, WRONG_LINES, WRONG_LINES_LISTS, WRONG_NAMES, check_refusals,
                          check_refused, difference, drawn_book, drawn_line, great_book, great_names, great_number,
                          line_of, lists_in, names_of, sum_of, told_book)

NAMES = ["a", "b", "c", "d"]
BYS = {"hours": [0, 1, 2, 3, 4, 6, 12], "bits": [0, 1, 2, 3, 4, 5, 6, 10, 12]}


def joined(lines):
    """The names of lines, in lists of those that lines lead to one another, none of them with the `by` 1."""
    lists = []
    for name in names_of(lines):
        if any(name in names for names in lists):
            continue
        names = [name]
        for here in names:
            for one, other, _, by in lines:
                if by != 1 and here in (one, other):
                    names += [there for there in (one, other) if there not in names]
        lists.append(sorted(names))
    return sorted(lists)


def state(engine):
    return [engine.kind(), engine.lines(), engine.marks(), engine.parts(), engine.log()]


class Model:
    """What an engine has to be, by its words: lines, marks and deeds, and all else told anew of the kept book."""

    def __init__(self, test, kind):
        self.test, self.kind, self.lines, self.marks, self.deeds = test, kind, [], [], []
        self.engine = Engine(kind)

    def tell(self, line):
        book = (self.kind, self.lines + [line])
        kept = can_be_kept(book)
        ring = self.engine.tell(line)
        self.deeds.append(("tell", line))
        if kept:
            self.test.assertIsNone(ring)
            self.lines.append(line)
        else:
            self.test.assertIs(is_ring(book, ring) and is_broken(book, ring), True)
            self.test.assertEqual(told_ring(book, ring), ring)
            self.test.assertIn(len(self.lines), [number for number, _ in ring])
        return kept

    def push(self):
        self.test.assertIsNone(self.engine.push())
        self.marks.append(len(self.lines))
        self.deeds.append(("push",))

    def pop(self):
        if not self.marks:
            ahead = state(self.engine)
            self.test.assertRaises(NothingToUndo, self.engine.pop)
            self.test.assertEqual(state(self.engine), ahead)
            return
        self.test.assertIsNone(self.engine.pop())
        self.lines = self.lines[:self.marks.pop()]
        self.deeds.append(("pop",))

    def check(self, rng):
        book = (self.kind, self.lines)
        expected = [self.kind, self.lines, self.marks, joined(self.lines), self.deeds]
        self.test.assertEqual(state(self.engine), expected)
        line = drawn_line(rng, self.kind, NAMES + ["x"], BYS[self.kind])
        self.test.assertEqual(self.engine.strongest(*line[:2]), closed_line(book, *line[:2]))
        self.test.assertEqual(self.engine.judged(line), news_of(book, line))
        self.test.assertEqual(state(self.engine), expected)


def drawn_log(rng, kind, most):
    """A log of drawn deeds, with the model of the engine to which they were done."""
    marks, log = 0, []
    for _ in range(rng.randint(0, most)):
        word = rng.choice(["tell", "tell", "tell", "push", "pop"])
        if word == "tell":
            log.append(("tell", drawn_line(rng, kind, NAMES, BYS[kind])))
        elif word == "push" or marks:
            log.append((word,))
            marks += 1 if word == "push" else -1
    return log


class AnyOrder(unittest.TestCase):
    def test_drawn_deeds(self):
        rng = random.Random(121)
        kept = []
        for kind in KINDS:
            for _ in range(60):
                model = Model(self, kind)
                for _ in range(rng.randint(1, 30)):
                    word = rng.choice(["tell", "tell", "tell", "push", "pop"])
                    if word == "tell":
                        kept.append(model.tell(drawn_line(rng, kind, NAMES, BYS[kind])))
                    elif word == "push":
                        model.push()
                    else:
                        model.pop()
                    model.check(rng)
        self.assertGreater(min(kept.count(True), kept.count(False)), 200)

    def test_behind_a_pop(self):
        """All answers are as they were just ahead of the push, whatever was told between."""
        rng = random.Random(122)
        for kind in KINDS:
            asked = [drawn_line(rng, kind, NAMES, BYS[kind]) for _ in range(15)]
            for _ in range(20):
                engine = replayed(kind, drawn_log(rng, kind, 8))
                ahead = self.answers(engine, asked)
                engine.push()
                for deed in drawn_log(rng, kind, 12):
                    getattr(engine, deed[0])(*deed[1:])
                while len(engine.marks()) > len(ahead[1]):
                    engine.pop()
                self.assertEqual(self.answers(engine, asked), ahead)

    def answers(self, engine, asked):
        return [engine.lines(), engine.marks(), engine.parts(), [engine.judged(line) for line in asked],
                [engine.strongest(*pair) for pair in itertools.permutations(NAMES, 2)]]

    def test_sure_lines(self):
        """A line that is judged sure changes no answer; a line is kept exactly if it is not judged never."""
        rng = random.Random(123)
        seen = []
        for kind in KINDS:
            asked = [drawn_line(rng, kind, NAMES, BYS[kind]) for _ in range(15)]
            for _ in range(150):
                engine = replayed(kind, drawn_log(rng, kind, 8))
                line = drawn_line(rng, kind, NAMES, BYS[kind])
                news, ahead = engine.judged(line), self.answers(engine, asked)
                self.assertIs(engine.tell(line) is None, news != "never")
                if news == "sure":
                    self.assertEqual(self.answers(engine, asked)[3:], ahead[3:])
                    self.assertEqual(engine.lines(), ahead[0] + [line])
                if news == "never":
                    self.assertEqual(self.answers(engine, asked), ahead)
                self.assertEqual(engine.log()[-1], ("tell", line))
                seen.append(news)
        self.assertGreater(min(seen.count(news) for news in ("sure", "open", "never")), 15)

    def test_two_parts(self):
        """Lines of unknowns of two parts are open, unless they have the by 1."""
        rng = random.Random(124)
        seen = 0
        for kind in KINDS:
            for _ in range(200):
                engine = replayed(kind, drawn_log(rng, kind, 5))
                for one, other in itertools.combinations(engine.parts(), 2):
                    line = drawn_line(rng, kind, [rng.choice(one), rng.choice(other)], BYS[kind])
                    self.assertEqual(engine.judged(line), "sure" if line[3] == 1 else "open")
                    seen += 1
        self.assertGreater(seen, 50)
        for kind in KINDS:
            engine = told_all(kind, [("c", "a", 0, 1), ("b", "d", 1, 2), ("d", "x", 0, 0), ("e", "b", 0, 1)])[0]
            self.assertEqual(engine.parts(), [["a"], ["b", "d", "x"], ["c"], ["e"]])
            self.assertEqual(Engine(kind).parts(), [])

    def test_nothing_is_shared(self):
        for kind in KINDS:
            engine = replayed(kind, [("tell", ("a", "b", 1, 2)), ("push",), ("tell", ("a", "c", 1, 2)), ("push",)])
            ahead = state(engine)
            for value in state(engine) + [engine.tell(("b", "a", 0, 2))]:
                for item in lists_in(value):
                    item.append("bent")
            self.assertEqual(state(engine)[:4], ahead[:4])
            self.assertEqual(engine.log(), ahead[4] + [("tell", ("b", "a", 0, 2))])
            lines = [("a", "b", 1, 2), ("a", "c", 1, 2)]
            log = [("tell", line) for line in lines]
            engines = [told_all(kind, lines)[0], replayed(kind, log)]
            lines.append(("b", "c", 0, 4))
            log.append(("push",))
            for engine in engines:
                self.assertEqual([engine.lines(), engine.log()], [lines[:2], log[:2]])

    def test_great(self):
        rng = random.Random(125)
        begun = time.time()
        names = great_names(12)
        for kind in KINDS:
            for shared in (0, 1, 6, 60):
                book = great_book(rng, kind, shared)
                engine = Engine(kind)
                for at, line in enumerate(book[1]):
                    self.assertIsNone(engine.tell(line))
                    if at % 4 == 0:
                        engine.push()
                        engine.tell((names[0], names[at % 11 + 1], great_number(rng, kind), 0))
                        engine.pop()
                self.assertEqual(engine.strongest(names[3], names[8]), closed_line(book, names[3], names[8]))
                for _ in range(100):
                    one, other, ahead, by = rng.choice(book[1])
                    line = line_of(kind, other, one, sum_of(kind, difference(kind, 0, ahead), 1), by)
                    whole = (kind, engine.lines() + [line])
                    ring = engine.tell(line)
                    self.assertIs(ring is None, can_be_kept(whole))
                    if ring is not None:
                        self.assertIs(is_ring(whole, ring) and is_broken(whole, ring), True)
                self.assertEqual(replayed(kind, engine.log()), engine)
        self.assertLess(time.time() - begun, 25)


class ToldAll(unittest.TestCase):
    def test_drawn_books(self):
        rng = random.Random(126)
        for kind in KINDS:
            left_out = 0
            for _ in range(60):
                lines = drawn_book(rng, kind, NAMES, 10)[1]
                ahead = list(lines)
                engine, left = answer = told_all(kind, lines)
                self.assertIsInstance(answer, tuple)
                self.assertEqual(lines, ahead)
                kept = []
                for at, line in enumerate(lines):
                    if can_be_kept((kind, kept + [line])):
                        kept.append(line)
                        self.assertNotIn(at, left)
                    else:
                        self.assertIn(at, left)
                self.assertEqual(left, sorted(set(left)))
                self.assertEqual([engine.lines(), engine.marks()], [kept, []])
                self.assertEqual(engine.log(), [("tell", line) for line in lines])
                left_out += len(left)
            self.assertGreater(left_out, 50)
            engine, left = told_all(kind, [])
            self.assertEqual([engine == Engine(kind), left], [True, []])

    def test_refused(self):
        for kind in KINDS:
            check_refusals(self, told_all, [("kind", kind, [(InvalidKind, WRONG_KINDS)]),
                                            ("lines", [("a", "b", 1, 2)], [(InvalidLines, WRONG_LINES_LISTS[kind])])])


class TwoEngines(unittest.TestCase):
    def test_same_answers(self):
        rng = random.Random(127)
        seen = []
        for kind in KINDS:
            for _ in range(80):
                book = told_book(rng, kind, ["a", "b", "c"], 5)
                one = told_all(kind, book[1])[0]
                lines = rng.sample(book[1], len(book[1])) + rng.sample(book[1], rng.randint(0, len(book[1])))
                self.assertIs(same_answers(one, told_all(kind, lines)[0]), True)
                other_book = (kind, lines[rng.randint(0, 2):] + told_book(rng, kind, ["a", "b"], 1)[1])
                other = told_all(kind, other_book[1])[0]
                kept = (kind, other.lines())
                self.assertIs(same_answers(one, other), closed(book) == closed(kept))
                self.assertIs(same_answers(other, one), closed(book) == closed(kept))
                self.assertEqual(new_lines(one, other),
                                 [at for at, line in enumerate(kept[1]) if not follows(book, line)])
                seen.append(same_answers(one, other))
                self.assertIs(same_answers(one, one), True)
                self.assertEqual(new_lines(one, one), [])
        self.assertGreater(min(seen.count(True), seen.count(False)), 20)

    def test_marks_and_logs_do_not_count(self):
        for kind in KINDS:
            one = replayed(kind, [("push",), ("tell", ("a", "b", 1, 2)), ("tell", ("b", "a", 0, 2)), ("push",)])
            other = replayed(kind, [("tell", ("b", "a", 1, 2)), ("tell", ("x", "y", 0, 1))])
            self.assertIs(same_answers(one, other), True)
            self.assertIs(same_answers(Engine(kind), told_all(kind, [("a", "b", 0, 1)])[0]), True)
            self.assertEqual([new_lines(one, other), new_lines(other, one)], [[], []])
            self.assertEqual(new_lines(Engine(kind), other), [0])

    def test_refused(self):
        ahead = [Engine("hours"), Engine("bits")]
        no_engines = THINGS + [7, "hours", ("hours", []), Engine, [Engine("hours")], InvalidBook(Engine("hours"))]
        for function in (same_answers, new_lines):
            for kind, engine in zip(KINDS, ahead):
                function(one=engine, other=Engine(kind))
                other_kind = ahead[1 - KINDS.index(kind)]
                for wrong in no_engines:
                    for other in (engine, other_kind, None):
                        self.check(function, InvalidBook, wrong, wrong, other)
                    self.check(function, InvalidBook, wrong, engine, wrong)
                self.check(function, Unlike, other_kind, engine, other_kind)
        self.assertEqual(ahead, [Engine("hours"), Engine("bits")])

    def check(self, function, error, field, one, other):
        for call in (lambda: function(one, other), lambda: function(one=one, other=other)):
            with self.assertRaises(errors.HourError) as caught:
                call()
            self.assertIs(type(caught.exception), error)
            self.assertIs(caught.exception.value, field)


class Refused(unittest.TestCase):
    def test_refused(self):
        for kind in KINDS:
            check_refusals(self, Engine, [("kind", kind, [(InvalidKind, WRONG_KINDS)])])
            engine = replayed(kind, [("tell", ("a", "b", 1, 2)), ("push",)])
            ahead = state(engine)
            for method in (engine.tell, engine.judged):
                for wrong in WRONG_LINES[kind]:
                    check_refused(self, method, InvalidLine, wrong, ["line"], [wrong])
            for wrong in WRONG_NAMES:
                for other in ("b", "a", wrong, 3):
                    check_refused(self, engine.strongest, InvalidName, wrong, ["one", "other"], [wrong, other])
                check_refused(self, engine.strongest, InvalidName, wrong, ["one", "other"], ["a", wrong])
            for name in ("a", "x"):
                check_refused(self, engine.strongest, InvalidName, name, ["one", "other"], [name, name])
            self.assertEqual(state(engine), ahead)
            engine.pop()
            with self.assertRaises(NothingToUndo):
                engine.pop()
            self.assertEqual(state(engine)[1:], [[("a", "b", 1, 2)], [], [["a", "b"]], ahead[4] + [("pop",)]])
            self.assertEqual(engine.strongest(one="b", other="a"), ("b", "a", 1, 2))
            self.assertEqual(engine.judged(line=("a", "b", 1, 4)), "open")
            self.assertIsNone(engine.tell(line=("a", "b", 1, 4)))
            self.assertEqual(Engine(kind=kind).kind(), kind)


NO_DEEDS = {kind: THINGS + ["push", "pop", ("push", 1), ("pop", ()), ["push"], ["pop"], ("Push",), ("tell",), (None,),
                            (["push"],), ("push", "push"), (("push",),), ("undo",), ("tell", ("a", "b", 1, 2), 1),
                            ["tell", ("a", "b", 1, 2)], ("tell", [("a", "b", 1, 2)]), (True, ("a", "b", 1, 2)),
                            ("told", ("a", "b", 1, 2)), (0,), Engine(kind), (Engine(kind),)]
            + [("tell", line) for line in WRONG_LINES[kind]] for kind in KINDS}
NO_LOGS = [None, True, 0, "", "push", (), (("push",),), {}, {("push",): 1}, ("push",), InvalidDeed([])]


class Logs(unittest.TestCase):
    def test_drawn_logs(self):
        rng = random.Random(128)
        for kind in KINDS:
            for _ in range(80):
                log = drawn_log(rng, kind, 20)
                ahead = list(log)
                model = Model(self, kind)
                for deed in log:
                    getattr(model, deed[0])(*deed[1:])
                self.assertIs(is_log(kind, log), True)
                engine = replayed(kind, log)
                self.assertEqual(state(engine), state(model.engine))
                self.assertIs(engine == model.engine, True)
                self.assertEqual(engine.log(), log)
                plain = plain_log(kind, log)
                self.assertEqual(log, ahead)
                self.check_plain(kind, engine, plain)
                self.assertEqual(plain_log(kind, plain), plain)

    def check_plain(self, kind, engine, plain):
        self.assertNotIn(("pop",), plain)
        again = replayed(kind, plain)
        self.assertEqual([again.lines(), again.marks()], [engine.lines(), engine.marks()])
        self.assertEqual([deed[1] for deed in plain if deed != ("push",)], engine.lines())
        self.assertEqual(len(plain), len(engine.lines()) + len(engine.marks()))

    def test_plain_logs(self):
        line, odd = ("tell", ("a", "b", 1, 2)), ("tell", ("a", "b", 0, 2))
        for kind in KINDS:
            self.assertEqual(plain_log(kind, []), [])
            plain = [("push",), ("push",), line, ("push",)]
            self.assertEqual(plain_log(kind, plain), plain)
            log = [line, odd, ("push",), odd, line, ("push",), ("pop",)]
            self.assertEqual(plain_log(kind, log), [line, ("push",), line])
            self.assertEqual(plain_log(kind, [("push",), odd, ("pop",), line]), [line])
            log = [("push",), line]
            answer = plain_log(kind, log)
            answer.append(("pop",))
            self.assertEqual([log, plain_log(kind, log)], [[("push",), line], log])

    def test_judged(self):
        line = ("tell", ("a", "b", 1, 2))
        for kind in KINDS:
            for value in NO_LOGS:
                self.assertIs(is_log(kind, value), False, value)
            for deed in NO_DEEDS[kind]:
                for value in ([deed], [line, deed, line], [("push",), line, ("pop",), deed]):
                    self.assertIs(is_log(kind, value), False, value)
            for value in ([("pop",)], [("push",), ("pop",), ("pop",)], [("pop",), ("push",)], [line, ("pop",)]):
                self.assertIs(is_log(kind, value), False, value)
            for value in ([], [("push",)], [("push",), ("pop",)], [("push",), ("push",), ("pop",), line, ("pop",)]):
                self.assertIs(is_log(kind, value), True, value)
        self.assertIs(is_log("bits", [("tell", ("a", "b", 2, 3))]), False)
        self.assertIs(is_log("hours", [("tell", ("a", "b", 2, 3))]), True)

    def test_refused(self):
        line, pop = ("tell", ("a", "b", 1, 2)), ("pop",)
        for kind in KINDS:
            for function in (replayed, plain_log):
                for wrong in WRONG_KINDS:
                    check_refused(self, function, InvalidKind, wrong, ["kind", "log"], [wrong, None])
                for wrong in NO_LOGS:
                    check_refused(self, function, InvalidDeed, wrong, ["kind", "log"], [kind, wrong])
                for deed in [deed for deed in NO_DEEDS[kind] if "Engine" not in repr(deed)]:
                    for log in ([deed], [line, ("push",), deed, pop, pop, None], [deed, ["push"]]):
                        check_refused(self, function, InvalidDeed, deed, ["kind", "log"], [kind, log])
                for log in ([pop], [line, ("push",), pop, pop, None], [line, pop, 3]):
                    at = 3 if len(log) == 5 else log.index(pop)
                    check_refused(self, function, InvalidDeed, log[at], ["kind", "log"], [kind, log])
                engine = Engine(kind)
                with self.assertRaises(InvalidDeed) as caught:
                    function(kind, [line, engine])
                self.assertIs(caught.exception.value, engine)
                function(kind=kind, log=[line])
            check_refusals(self, is_log, [("kind", kind, [(InvalidKind, WRONG_KINDS)]), ("value", None, [])])

    def test_two_hundred_deeds(self):
        rng = random.Random(129)
        begun = time.time()
        for kind in KINDS:
            for shared in (1, 60):
                lines = great_book(rng, kind, shared)[1]
                log = []
                while len(log) < 200:
                    one, other, ahead, by = rng.choice(lines)
                    log.append(("tell", line_of(kind, one, other, sum_of(kind, ahead, rng.randrange(2)), by)))
                    if len(log) % 20 == 0:
                        log[-1] = ("push",)
                    if len(log) % 50 == 49:
                        log[-1] = ("pop",)
                self.assertIs(is_log(kind, log), True)
                engine = replayed(kind, log)
                self.check_plain(kind, engine, plain_log(kind, log))
        self.assertLess(time.time() - begun, 10)


class CopiesAndEqual(unittest.TestCase):
    def test_copies(self):
        rng = random.Random(130)
        for kind in KINDS:
            for _ in range(40):
                engine = replayed(kind, drawn_log(rng, kind, 12))
                ahead = state(engine)
                other = engine.copy()
                self.assertIs(engine == other, True)
                self.assertIs(engine != other, False)
                self.assertEqual(state(other), ahead)
                # Each of the two goes its own way.
                for going, staying in ((other, engine), (engine, other.copy())):
                    kept = state(staying)
                    going.push()
                    going.tell(drawn_line(rng, kind, NAMES, BYS[kind]))
                    self.assertEqual(state(staying), kept)
                    self.assertIs(going == staying, False)
                    while going.marks():
                        going.pop()
                    self.assertEqual(state(staying), kept)
                    line = drawn_line(rng, kind, NAMES, BYS[kind])
                    book = (kind, going.lines())
                    self.assertEqual(going.judged(line), news_of(book, line))
                    self.assertEqual(staying.judged(line), news_of((kind, staying.lines()), line))

    def test_equal(self):
        line, again = ("tell", ("a", "b", 1, 2)), ("tell", ("b", "a", 1, 2))
        logs = [[], [line], [again], [line, line], [("push",)], [("push",), line], [line, ("push",)],
                [("push",), line, ("pop",)], [line, ("push",), ("pop",)], [line, ("tell", ("a", "b", 0, 2))]]
        engines = [replayed(kind, log) for kind in KINDS for log in logs]
        for at, one in enumerate(engines):
            for place, other in enumerate(engines):
                self.assertIs(one == other, at == place, (at, place))
                self.assertIs(one != other, at != place)
            self.assertIs(one == replayed(one.kind(), one.log()), True)
            for thing in THINGS + [one.log(), one.lines(), (one.kind(), one.lines()), "hours"]:
                self.assertIs(one == thing, False)
                self.assertIs(thing == one, False)
            self.assertEqual(copy.deepcopy(one), one)


if __name__ == "__main__":
    unittest.main()
