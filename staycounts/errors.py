"""The errors of the package.

Each error keeps its fields as attributes. What is passed by position is also
kept by Python as the arguments of the error, so a traceback shows it.
"""


class CountError(ValueError):
    """The base class of the errors about values that are not valid."""


class InvalidCounts(CountError):
    """The numbers are not those of counts; the first wrong tick, or None if the tuples do not fit."""

    def __init__(self, tick):
        self.tick = tick


class NotCounts(CountError):
    """The value is not a Counts."""

    def __init__(self, value):
        self.value = value


class InvalidTick(CountError):
    """The value is not a tick that is allowed here."""

    def __init__(self, tick):
        self.tick = tick


class InvalidNumber(CountError):
    """The value is not a number that is allowed here."""

    def __init__(self, number):
        self.number = number


class InvalidText(CountError):
    """The value is not the text of counts."""

    def __init__(self, text):
        self.text = text


class InvalidStay(CountError):
    """The value at this index is not a stay that is allowed here."""

    def __init__(self, index):
        self.index = index


class InvalidHistory(CountError):
    """The value is not a history of the counts."""

    def __init__(self, history):
        self.history = history


class InvalidName(CountError):
    """The value is not the name of a rule."""

    def __init__(self, name):
        self.name = name


class InvalidLength(CountError):
    """The value is not a length that is allowed here."""

    def __init__(self, length):
        self.length = length


class InvalidDoors(CountError):
    """The numbers are not those of a chain; the first wrong argument, or None for the number of doors."""

    def __init__(self, index):
        self.index = index


class InvalidDeed(CountError):
    """The value at this index is not a deed."""

    def __init__(self, index):
        self.index = index


class InvalidCommand(CountError):
    """The value is not a command."""

    def __init__(self, command):
        self.command = command


class SearchError(LookupError):
    """The base class of the errors about what does not exist."""


class Impossible(SearchError):
    """The known stays are not possible: the word and the tick tell why."""

    def __init__(self, word, tick):
        self.word = word
        self.tick = tick


class NotKnown(SearchError):
    """The stay is not known."""

    def __init__(self, stay):
        self.stay = stay


class LimitBroken(SearchError):
    """Not all stays can keep the limit."""


class NothingToUndo(SearchError):
    """The log is empty."""


class LimitError(ArithmeticError):
    """The base class of the errors about too large results."""


class TooMany(LimitError):
    """The result would exceed this limit."""

    def __init__(self, limit):
        self.limit = limit
