"""The errors that the package raises; each keeps its arguments as attributes."""


class InvalidQuery(ValueError):
    """The value is no query: index tells its first wrong atom, -1 the head, None its form."""

    def __init__(self, index):
        self.index = index


class InvalidRules(ValueError):
    """The value is no rules for the query: index tells its first wrong rule, None its form."""

    def __init__(self, index):
        self.index = index


class InvalidStore(ValueError):
    """The value is no store that keeps the rules: table and row tell where, None its form."""

    def __init__(self, table, row):
        self.table = table
        self.row = row


class InvalidStrike(ValueError):
    """The value is no strike of the store: index tells its first wrong pair, None its form."""

    def __init__(self, index):
        self.index = index


class InvalidPrices(ValueError):
    """The value is no prices for the store: table tells the first wrong table, None its form."""

    def __init__(self, table):
        self.table = table


class InvalidRow(ValueError):
    """The values are no table and row of it."""


class InvalidAnswer(ValueError):
    """The value does not have the form of an answer."""


class InvalidClaim(ValueError):
    """The value is no valid claim."""


class ParseError(ValueError):
    """The text is no valid one: line tells the first line up to which no valid text goes."""

    def __init__(self, line):
        self.line = line


class NoAnswer(LookupError):
    """The value is no wished answers: index tells the first wrong one, None its form."""

    def __init__(self, index):
        self.index = index


class NotThere(LookupError):
    """What a deed takes away is not there."""


class AlreadyThere(RuntimeError):
    """What a deed brings is there already."""


class RuleBroken(RuntimeError):
    """A rule would not hold any more: number is that of the first one."""

    def __init__(self, number):
        self.number = number


class AnswerLost(RuntimeError):
    """A kept answer would leave the view: index is that of the first one."""

    def __init__(self, index):
        self.index = index


class AnswerBarred(RuntimeError):
    """A barred answer would come into the view: index is that of the first one."""

    def __init__(self, index):
        self.index = index


class CannotTake(RuntimeError):
    """No strike takes out the wished answers and strikes no kept one."""


class Refused(RuntimeError):
    """Deeds were not done: index tells the first that fails, reason the name of its error."""

    def __init__(self, index, reason):
        self.index = index
        self.reason = reason


class NothingDone(RuntimeError):
    """There is no deed to undo."""


class TableFull(OverflowError):
    """The table has no room for another row."""

    def __init__(self, table):
        self.table = table


class TooMany(OverflowError):
    """There are too many, or as many as may be: number tells how many there are."""

    def __init__(self, number):
        self.number = number
