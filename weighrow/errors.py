"""The refusals of the program; each has the word by which it is called."""


class RowError(ValueError):
    """Something that was handed in cannot be taken."""

    def __init__(self, called, more=""):
        ValueError.__init__(self, called + more)
        self.called = called


class BadTimes(RowError):
    """A number of times, or one to divide by, is below 1."""

    def __init__(self):
        RowError.__init__(self, "bad times")


class BadMany(RowError):
    """A count of marks is not from 1 to 12."""

    def __init__(self):
        RowError.__init__(self, "bad many")


class BadTerm(RowError):
    """A term has a mark or a want that cannot be, or terms are no goal."""

    def __init__(self):
        RowError.__init__(self, "bad term")


class BadWant(RowError):
    """A want is neither 0 nor 1."""

    def __init__(self):
        RowError.__init__(self, "bad want")


class BadTurns(RowError):
    """A count of turns is not from 1 to 1000."""

    def __init__(self):
        RowError.__init__(self, "bad turns")


class TooGreat(RowError):
    """A row is too great to be led to clauses."""

    def __init__(self):
        RowError.__init__(self, "too great")


class Full(RowError):
    """A book has as many rows as it can have."""

    def __init__(self):
        RowError.__init__(self, "full")


class Wished(RowError):
    """A mark has a wish already."""

    def __init__(self):
        RowError.__init__(self, "wished")


class BadLine(RowError):
    """A line of a log is wrong: the first such has the number at."""

    def __init__(self, at):
        RowError.__init__(self, "bad line", f": {at}")
        self.at = at


class BadText(RowError):
    """A text is not one that is read: its first wrong row has the number row."""

    def __init__(self, row):
        RowError.__init__(self, "bad text", f": row {row}")
        self.row = row


class Missing(LookupError):
    """Something that was asked for is not there."""

    def __init__(self, called):
        LookupError.__init__(self, called)
        self.called = called


class NoMark(Missing):
    """There is no such mark."""

    def __init__(self):
        Missing.__init__(self, "no mark")


class NoRow(Missing):
    """There is no row of that number."""

    def __init__(self):
        Missing.__init__(self, "no row")


class NoWish(Missing):
    """The mark has no wish."""

    def __init__(self):
        Missing.__init__(self, "no wish")


class NoLine(Missing):
    """The log has no line of that number."""

    def __init__(self):
        Missing.__init__(self, "no line")


class NoWay(Missing):
    """There is no such way, or no such end of a search."""

    def __init__(self):
        Missing.__init__(self, "no way")


class NothingLeft(Missing):
    """There is nothing to take back or to do again."""

    def __init__(self):
        Missing.__init__(self, "nothing left")
