"""The errors of the package: each tells the value that it refuses."""


class HourError(ValueError):
    """What all errors of the package are derived from."""


class InvalidNumber(HourError):
    def __init__(self, value=None):
        HourError.__init__(self, "no number that can stand here")
        self.value = value


class InvalidKind(HourError):
    def __init__(self, value=None):
        HourError.__init__(self, "no kind")
        self.value = value


class InvalidName(HourError):
    def __init__(self, value=None):
        HourError.__init__(self, "no name that can stand here")
        self.value = value


class InvalidNames(HourError):
    def __init__(self, value=None):
        HourError.__init__(self, "no names that can stand here")
        self.value = value


class InvalidLine(HourError):
    def __init__(self, value=None):
        HourError.__init__(self, "no line or rest that can stand here")
        self.value = value


class InvalidLines(HourError):
    def __init__(self, value=None):
        HourError.__init__(self, "no list of lines or rests that can stand here")
        self.value = value


class InvalidBook(HourError):
    def __init__(self, value=None):
        HourError.__init__(self, "no book that can stand here")
        self.value = value


class InvalidNumbers(HourError):
    def __init__(self, value=None):
        HourError.__init__(self, "no numbers that can stand here")
        self.value = value


class InvalidRing(HourError):
    def __init__(self, value=None):
        HourError.__init__(self, "no ring that can stand here")
        self.value = value


class InvalidWay(HourError):
    def __init__(self, value=None):
        HourError.__init__(self, "no way of the book")
        self.value = value


class InvalidPaper(HourError):
    def __init__(self, value=None):
        HourError.__init__(self, "no paper that can stand here")
        self.value = value


class InvalidRow(HourError):
    def __init__(self, value=None):
        HourError.__init__(self, "no row that can stand here")
        self.value = value


class InvalidPeriod(HourError):
    def __init__(self, value=None):
        HourError.__init__(self, "no period of the book")
        self.value = value


class InvalidChoices(HourError):
    def __init__(self, value=None):
        HourError.__init__(self, "no choices of the kind")
        self.value = value


class InvalidPicks(HourError):
    def __init__(self, value=None):
        HourError.__init__(self, "no picks of the choices")
        self.value = value


class InvalidThings(HourError):
    def __init__(self, value=None):
        HourError.__init__(self, "no things that can stand here")
        self.value = value


class InvalidText(HourError):
    def __init__(self, value=None):
        HourError.__init__(self, "no text that can stand here")
        self.value = value


class InvalidDeed(HourError):
    def __init__(self, value=None):
        HourError.__init__(self, "no deed that can be done")
        self.value = value


class Unlike(HourError):
    def __init__(self, value=None):
        HourError.__init__(self, "not of the same kind, or not of unknowns that fit")
        self.value = value


class AtOdds(HourError):
    def __init__(self, value=None):
        HourError.__init__(self, "a book that no numbers keep")
        self.value = value


class TooMany(HourError):
    def __init__(self, value=None):
        HourError.__init__(self, "more than can be gone through")
        self.value = value


class NothingToUndo(HourError):
    """There is no deed and no mark that could be taken back."""


class NothingToRedo(HourError):
    """Nothing was taken back that could be done again."""
