"""An engine: lines are told one by one, those that can be kept together are kept, and taken back up to marks."""

from hourrings.books import check_line, check_two_names, joined_names, line_fits, lines_fit, names_in
from hourrings.closed import lines_of_table, news_of_line, not_following, table_with, told_table
from hourrings.errors import InvalidBook, InvalidDeed, InvalidLines, NothingToUndo, Unlike
from hourrings.kinds import check_kind
from hourrings.plain import ring_refused
from hourrings.rests import NOTHING


class Engine:
    """Lines of a kind that can be kept together, with the marks up to which they are taken back."""

    def __init__(self, kind):
        check_kind(kind)
        self.of_kind = kind
        self.kept = []
        self.at_marks = []
        self.deeds = []
        # The closed tables, never changed, of the lines that are kept, and of those that were at each mark.
        self.table = {}
        self.tables = []

    def __eq__(self, other):
        if not isinstance(other, Engine):
            return False
        if self.of_kind != other.of_kind or self.kept != other.kept:
            return False
        return self.at_marks == other.at_marks and self.deeds == other.deeds

    def kind(self):
        return self.of_kind

    def rest_between(self, one, other):
        """The rest of the closed line of two names."""
        return self.table.get((one, other), NOTHING)

    def keep(self, line):
        """Does the telling of a line, and returns whether it is kept."""
        self.deeds.append(("tell", line))
        table = table_with(self.of_kind, self.table, line)
        if table is None:
            return False
        self.kept.append(line)
        self.table = table
        return True

    def tell(self, line):
        check_line(self.of_kind, line)
        if self.keep(line):
            return None
        table = told_table(self.of_kind, self.kept)
        return ring_refused(self.of_kind, self.kept, table, line, self.rest_between(line[0], line[1]))

    def push(self):
        self.deeds.append(("push",))
        self.at_marks.append(len(self.kept))
        self.tables.append(self.table)

    def pop(self):
        if not self.at_marks:
            raise NothingToUndo()
        self.deeds.append(("pop",))
        self.kept = self.kept[:self.at_marks[-1]]
        self.table = self.tables[-1]
        self.at_marks = self.at_marks[:-1]
        self.tables = self.tables[:-1]

    def lines(self):
        return list(self.kept)

    def marks(self):
        return list(self.at_marks)

    def strongest(self, one, other):
        check_two_names(one, other)
        return one, other, *self.rest_between(one, other)

    def judged(self, line):
        check_line(self.of_kind, line)
        return news_of_line(self.of_kind, line, self.rest_between(line[0], line[1]))

    def parts(self):
        return joined_names(names_in(self.kept), [line for line in self.kept if line[3] != 1])

    def log(self):
        return list(self.deeds)

    def copy(self):
        other = Engine(self.of_kind)
        other.kept = list(self.kept)
        other.at_marks = list(self.at_marks)
        other.deeds = list(self.deeds)
        other.table = self.table
        other.tables = list(self.tables)
        return other


def check_engine(value):
    if not isinstance(value, Engine):
        raise InvalidBook(value)


def check_two_engines(one, other):
    check_engine(one)
    check_engine(other)
    if one.kind() != other.kind():
        raise Unlike(other)


def closed_lines(engine):
    return lines_of_table(engine.table, names_in(engine.kept))


def told_all(kind, lines):
    check_kind(kind)
    if not lines_fit(kind, lines):
        raise InvalidLines(lines)
    engine = Engine(kind)
    left = []
    for at, line in enumerate(lines):
        if not engine.keep(line):
            left.append(at)
    return engine, left


def same_answers(one, other):
    check_two_engines(one, other)
    return closed_lines(one) == closed_lines(other)


def new_lines(one, other):
    check_two_engines(one, other)
    return not_following(one.kind(), one.table, other.kept)


def deed_fits(kind, value):
    """Whether a value has the form of a deed."""
    if not isinstance(value, tuple) or not value or not isinstance(value[0], str):
        return False
    if value[0] == "tell":
        return len(value) == 2 and line_fits(kind, value[1])
    return value[0] in ("push", "pop") and len(value) == 1


def wrong_deed(kind, log):
    """The number of the first item of a list that is no deed or can't be done, None if there is none."""
    marks = 0
    for at, deed in enumerate(log):
        if not deed_fits(kind, deed) or deed[0] == "pop" and marks == 0:
            return at
        if deed[0] != "tell":
            marks += 1 if deed[0] == "push" else -1
    return None


def engine_of_log(kind, log):
    """An engine to which the deeds of a log are done."""
    check_kind(kind)
    if not isinstance(log, list):
        raise InvalidDeed(log)
    at = wrong_deed(kind, log)
    if at is not None:
        raise InvalidDeed(log[at])
    engine = Engine(kind)
    for deed in log:
        if deed[0] == "push":
            engine.push()
        elif deed[0] == "pop":
            engine.pop()
        else:
            engine.keep(deed[1])
    return engine


def is_log(kind, value):
    check_kind(kind)
    return isinstance(value, list) and wrong_deed(kind, value) is None


def replayed(kind, log):
    return engine_of_log(kind, log)


def plain_log(kind, log):
    engine = engine_of_log(kind, log)
    lines, marks = engine.lines(), engine.marks()
    deeds = []
    for at in range(len(lines) + 1):
        deeds.extend([("push",)] * marks.count(at))
        deeds.extend([("tell", line) for line in lines[at:at + 1]])
    return deeds
