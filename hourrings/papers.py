"""Papers: what follows, and what can't be, told by entries that a small judge reads."""

from hourrings.books import check_book, check_line, is_name, names_in
from hourrings.closed import kept_table, line_follows
from hourrings.errors import InvalidPaper
from hourrings.kinds import common_divisor, has_factor, is_count, rest_by
from hourrings.plain import barring_of, odds_of, ring_at_odds, way_entries
from hourrings.rests import NOTHING, join, meet, rests_agree, turn

# How many parts stand behind the word of an entry, and how many of them, the first ones, are numbers of elder entries.
PARTS = {"told": 1, "nothing": 2, "turned": 1, "joined": 2, "met": 2, "less": 2}
ELDERS = {"told": 0, "nothing": 0, "turned": 1, "joined": 2, "met": 2, "less": 1}


def elders_of(entry):
    """The numbers of the entries that an entry names."""
    return list(entry[1:1 + ELDERS[entry[0]]])


def entry_fits(many, value):
    """Whether a value has the form of an entry that has so many elder ones."""
    if not isinstance(value, tuple) or not value or not isinstance(value[0], str) or value[0] not in PARTS:
        return False
    if len(value) != 1 + PARTS[value[0]]:
        return False
    return all([is_count(number) and number < many for number in elders_of(value)])


def told_by_lines(kind, told, entry):
    """The line of an entry that names elder ones, None if these do not fit."""
    word, first = entry[:2]
    one, other = told[first][:2]
    rest = told[first][2:]
    if word == "turned":
        return other, one, *turn(kind, rest)
    if word == "less":
        by = entry[2]
        if not is_count(by) or not has_factor(kind, rest[1], by):
            return None
        return one, other, rest_by(kind, rest[0], by), by
    begin, end = told[entry[2]][:2]
    more = told[entry[2]][2:]
    if word == "joined" and begin == other and end != one:
        return one, end, *join(kind, rest, more)
    if word == "met" and (begin, end) == (one, other) and rests_agree(kind, rest, more):
        return one, other, *meet(kind, rest, more)
    return None


def line_of_entry(book, told, entry):
    """The line that an entry tells behind those that its elder ones tell, None if it is no entry there."""
    kind, lines = book
    if not entry_fits(len(told), entry):
        return None
    if entry[0] == "told":
        return lines[entry[1]] if is_count(entry[1]) and entry[1] < len(lines) else None
    if entry[0] == "nothing":
        one, other = entry[1:]
        return (one, other, *NOTHING) if is_name(one) and is_name(other) and one != other else None
    return told_by_lines(kind, told, entry)


def lines_told(book, value):
    """The lines that the entries of a paper tell, None unless a value is a paper."""
    if not isinstance(value, list):
        return None
    told = []
    for entry in value:
        line = line_of_entry(book, told, entry)
        if line is None:
            return None
        told.append(line)
    return told


def checked_lines(book, paper):
    """The lines that a paper of a book tells."""
    check_book(book)
    told = lines_told(book, paper)
    if told is None:
        raise InvalidPaper(paper)
    return told


def leaned_on(paper, number):
    """The numbers, ascending, of an entry and of all on which it leans."""
    needed = {number: True}
    for at in range(number, -1, -1):
        if at in needed:
            for elder in elders_of(paper[at]):
                needed[elder] = True
    return sorted(needed)


def numbered_anew(entry, places):
    """An entry, with the new places of those that it names."""
    elders = elders_of(entry)
    named = [places[elder] for elder in elders]
    return entry[0], *named, *entry[1 + len(elders):]


def trimmed_to(paper, number):
    """The paper of one entry and of all on which it leans."""
    places = {}
    part = []
    for at in leaned_on(paper, number):
        places[at] = len(part)
        part.append(numbered_anew(paper[at], places))
    return part


class Closing:
    """A paper in the making that closes a book: its entries, their lines, and which tell the most of two names."""

    def __init__(self, book):
        self.source = book
        self.entries = []
        self.found = []
        self.strongest_at = {}

    def put(self, entry):
        """Puts an entry behind the others and returns its number."""
        self.found.append(line_of_entry(self.source, self.found, entry))
        self.entries.append(entry)
        return len(self.entries) - 1

    def between(self, one, other):
        """The number of the entry that tells the most from one name to another, None if nothing is told of them."""
        if (one, other) not in self.strongest_at and (other, one) in self.strongest_at:
            self.strongest_at[(one, other)] = self.put(("turned", self.strongest_at[(other, one)]))
        return self.strongest_at.get((one, other))

    def adds(self, one, other, by):
        """Whether a line of two names that follows says with this `by` more than what is told of them so far."""
        known = self.between(one, other)
        if known is None:
            return by != 1
        return not has_factor(self.source[0], self.found[known][3], by)

    def learn(self, entry):
        """Puts an entry, and makes it, met with what is told of its names, what tells the most of them."""
        number = self.put(entry)
        one, other, _, by = self.found[number]
        known = self.between(one, other)
        if known is not None and not has_factor(self.source[0], by, self.found[known][3]):
            number = self.put(("met", known, number))
        self.strongest_at[(one, other)] = number
        # What was told the other way about is not the most any more: it is turned anew when it is asked for.
        if (other, one) in self.strongest_at:
            del self.strongest_at[(other, one)]

    def join_through(self, one, mid, other):
        first, second = self.between(one, mid), self.between(mid, other)
        if first is None or second is None:
            return
        by = common_divisor(self.source[0], self.found[first][3], self.found[second][3])
        if self.adds(one, other, by):
            self.learn(("joined", first, second))


def closing_of(book):
    """The making of a paper that tells each closed line of a book that can be kept."""
    made = Closing(book)
    names = names_in(book[1])
    for number, line in enumerate(book[1]):
        if made.adds(line[0], line[1], line[3]):
            made.learn(("told", number))
    for mid in names:
        ends = [name for name in names if name != mid]
        for at, one in enumerate(ends):
            for other in ends[at + 1:]:
                made.join_through(one, mid, other)
    return made


def paper_of(book, line):
    """A paper of a book that can be kept whose last entry tells a line that follows."""
    one, other, _, by = line
    if by == 1:
        return [("nothing", one, other)]
    made = closing_of(book)
    number = made.between(one, other)
    if made.found[number] != line:
        number = made.put(("less", number, by))
    return trimmed_to(made.entries, number)


def odds_fit(book, value):
    """Whether a value is a paper against a book with the numbers of two of its entries."""
    if not isinstance(value, tuple) or len(value) != 3:
        return False
    told = lines_told(book, value[0])
    if told is None or not all([is_count(at) and at < len(told) for at in value[1:]]):
        return False
    one, other = told[value[1]], told[value[2]]
    return one[:2] == other[:2] and not rests_agree(book[0], one[2:], other[2:])


def is_paper(book, value):
    check_book(book)
    return lines_told(book, value) is not None


def told_lines(book, paper):
    return checked_lines(book, paper)


def paper_for(book, line):
    check_book(book)
    check_line(book[0], line)
    if not line_follows(book[0], line, kept_table(book).get(line[:2], NOTHING)):
        return None
    return paper_of(book, line)


def is_paper_for(book, line, value):
    check_book(book)
    check_line(book[0], line)
    told = lines_told(book, value)
    return told is not None and told[-1:] == [line]


def odds_paper(book):
    check_book(book)
    return odds_of(book[0], book[1])


def is_odds_paper(book, value):
    check_book(book)
    return odds_fit(book, value)


def ring_of_odds(book, value):
    check_book(book)
    if not odds_fit(book, value):
        raise InvalidPaper(value)
    kind, lines = book
    numbers = sorted({entry[1] for entry in value[0] if entry[0] == "told"})
    return [(numbers[at], way) for at, way in ring_at_odds(kind, [lines[number] for number in numbers])]


def never_paper(book, line):
    check_book(book)
    kind, lines = book
    check_line(kind, line)
    way = barring_of(kind, lines, kept_table(book), line)
    return None if way is None else way_entries(way)


def is_never_paper(book, line, value):
    check_book(book)
    kind = book[0]
    check_line(kind, line)
    told = lines_told(book, value)
    if not told:
        return False
    return told[-1][:2] == line[:2] and not rests_agree(kind, told[-1][2:], line[2:])


def used_lines(book, paper):
    checked_lines(book, paper)
    if not paper:
        return []
    needed = [paper[at] for at in leaned_on(paper, len(paper) - 1)]
    return sorted({entry[1] for entry in needed if entry[0] == "told"})


def trimmed(book, paper):
    checked_lines(book, paper)
    if not paper:
        return []
    return trimmed_to(paper, len(paper) - 1)


def last_lines(book, papers):
    """The lines that the last entries of papers tell, None unless each is a paper of the book, and none is empty."""
    if not isinstance(papers, list):
        return None
    found = []
    for paper in papers:
        told = lines_told(book, paper)
        if not told:
            return None
        found.append(told[-1])
    return found


def put_through(book, papers, paper):
    check_book(book)
    lines = last_lines(book, papers)
    if lines is None:
        raise InvalidPaper(papers)
    checked_lines((book[0], lines), paper)
    whole = []
    ends = []
    for part in papers:
        places = list(range(len(whole), len(whole) + len(part)))
        whole.extend([numbered_anew(entry, places) for entry in part])
        ends.append(len(whole) - 1)
    places = []
    for entry in paper:
        if entry[0] == "told":
            places.append(ends[entry[1]])
        else:
            whole.append(numbered_anew(entry, places))
            places.append(len(whole) - 1)
    return trimmed_to(whole, places[-1]) if paper else []
