"""The errors of the program. Each one has the attribute that its constructor takes."""


class GroupError(ValueError):
    """The base class of all errors below."""


class InvalidSetting(GroupError):
    """A setting is wrong; field names its first bad argument, or is "text"."""

    def __init__(self, field):
        self.field = field


class InvalidSaying(GroupError):
    """A value is not a saying, a text does not write one, or two sayings do not fit."""

    def __init__(self, saying):
        self.saying = saying


class InvalidLetter(GroupError):
    """A text does not write a letter; reason tells the first thing that is wrong."""

    def __init__(self, reason):
        self.reason = reason


class InvalidPlan(GroupError):
    """A call plan does not tell all; index is its first wrong round, or its length."""

    def __init__(self, index):
        self.index = index


class InvalidKey(GroupError):
    """A value is not a key."""

    def __init__(self, key):
        self.key = key


class InvalidLine(GroupError):
    """A value is not a line that the desk knows."""

    def __init__(self, line):
        self.line = line


class UnknownSeat(GroupError):
    """Nothing can be told of a seat."""

    def __init__(self, seat):
        self.seat = seat


class UnknownKey(GroupError):
    """There is no entry with a key."""

    def __init__(self, key):
        self.key = key


class DeedRefused(GroupError):
    """A deed cannot be done now; deed is the tuple that the history would hold."""

    def __init__(self, deed):
        self.deed = deed


class TooMuch(GroupError):
    """Something goes beyond a limit."""

    def __init__(self, limit):
        self.limit = limit


class NoBook(GroupError):
    """The areas of a disk hold no book."""


class NothingToUndo(GroupError):
    """No line stands that could be taken back."""


class NothingToRedo(GroupError):
    """No line was taken back that could be done again."""
