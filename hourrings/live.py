"""A live book: lines in layers, deeds that change them, undone and done again."""

from hourrings.books import check_line, line_fits, names_in
from hourrings.closed import given_on, closed_table, is_kept_together
from hourrings.errors import InvalidDeed, NothingToRedo, NothingToUndo
from hourrings.kinds import check_kind, is_whole
from hourrings.shortest import shortest_of
from hourrings.texts import bad_line, book_in_text, book_text

MOST_LINES = 40
MOST_NAMES = 12
MOST_LAYERS = 9


def lines_in(layers):
    """The lines of all layers, the lowest one first."""
    return [line for layer in layers for line in layer]


def lines_read(kind, text):
    """The lines of the book of a kind whose text this is, None if there is none."""
    if not isinstance(text, str) or bad_line(text) is not None:
        return None
    told, lines = book_in_text(text)
    return lines if told == kind else None


def with_lines(layers, lines):
    return layers[:-1] + [layers[-1] + lines]


def without_line(layers, number):
    """The layers without a line of the topmost one, None if there is none with this number."""
    top = layers[-1]
    if not is_whole(number) or not 0 <= number < len(top):
        return None
    return layers[:-1] + [top[:number] + top[number + 1:]]


def layers_with(kind, layers, word, told):
    """The layers behind a deed that tells something, None if it is no deed or cannot be done."""
    if word == "line" and line_fits(kind, told):
        return with_lines(layers, [told])
    if word == "drop":
        return without_line(layers, told)
    lines = lines_read(kind, told) if word == "read" else None
    return None if lines is None else with_lines(layers, lines)


def layers_behind(kind, layers, deed):
    """The layers behind a deed, the limits left aside; None if it is no deed or there is nothing that it can take."""
    if not isinstance(deed, tuple):
        return None
    if len(deed) == 2:
        return layers_with(kind, layers, deed[0], deed[1])
    if deed == ("push",):
        return layers + [[]]
    return layers[:-1] if deed == ("pop",) and len(layers) > 1 else None


def are_within(layers):
    """Whether layers keep the limits."""
    lines = lines_in(layers)
    return len(layers) <= MOST_LAYERS and len(lines) <= MOST_LINES and len(names_in(lines)) <= MOST_NAMES


def layers_done(kind, layers, deed):
    """The layers behind a deed, None if it cannot be done."""
    behind = layers_behind(kind, layers, deed)
    return behind if behind is not None and are_within(behind) else None


class LiveBook:
    """Lines of a kind in layers, with the deeds that were done and those that were taken back."""

    def __init__(self, kind):
        check_kind(kind)
        self.of_kind = kind
        self.deeds = []
        # The layers, never changed, at first and behind each deed; and each deed taken back, with those behind it.
        self.states = [[[]]]
        self.undone = []

    def __eq__(self, other):
        if not isinstance(other, LiveBook):
            return False
        return self.of_kind == other.of_kind and self.now() == other.now() and self.deeds == other.deeds

    def now(self):
        """The layers as they are now, not to be changed."""
        return self.states[-1]

    def all_lines(self):
        return lines_in(self.now())

    def kind(self):
        return self.of_kind

    def layers(self):
        return [list(layer) for layer in self.now()]

    def book(self):
        return self.of_kind, self.all_lines()

    def told(self):
        return book_text(self.of_kind, self.all_lines())

    def do(self, deed):
        behind = layers_done(self.of_kind, self.now(), deed)
        if behind is None:
            raise InvalidDeed(deed)
        self.deeds.append(deed)
        self.states.append(behind)
        self.undone = []

    def undo(self):
        if not self.deeds:
            raise NothingToUndo()
        self.undone.append((self.deeds[-1], self.now()))
        self.deeds = self.deeds[:-1]
        self.states = self.states[:-1]

    def redo(self):
        if not self.undone:
            raise NothingToRedo()
        deed, behind = self.undone[-1]
        self.deeds.append(deed)
        self.states.append(behind)
        self.undone = self.undone[:-1]

    def log(self):
        return list(self.deeds)

    def copy(self):
        other = LiveBook(self.of_kind)
        other.deeds = list(self.deeds)
        other.states = list(self.states)
        other.undone = list(self.undone)
        return other

    def can(self):
        return is_kept_together(self.of_kind, self.all_lines())

    def ring(self):
        return shortest_of(self.of_kind, self.all_lines())

    def first(self):
        lines = self.all_lines()
        table = closed_table(self.of_kind, lines)
        return None if table is None else given_on(self.of_kind, names_in(lines), table, [])

    def lets(self, line):
        check_line(self.of_kind, line)
        return is_kept_together(self.of_kind, self.all_lines() + [line])


def is_deed(live, value):
    if not isinstance(live, LiveBook):
        raise InvalidDeed(live)
    return layers_done(live.kind(), live.now(), value) is not None
