"""A console: commands for a book, as lines of text."""

from staycounts.arguments import is_written_number
from staycounts.book import Book
from staycounts.chances import ways
from staycounts.counts import Counts
from staycounts.errors import InvalidCommand

# The numbers of a command have at most so many digits.
MAX_DIGITS = 4

# What stands behind the word of each command: numbers, or in the place of a
# number a text that stands for None, where the command has one.
FORMS = {
    "learn": (None, None),
    "forget": (None, None),
    "correct": (None, "-", "-"),
    "extend": (None, None),
    "limit": ("none",),
    "undo": (),
    "counts": (),
    "known": (),
    "log": (),
    "within": (None, None),
    "long": (None,),
    "leave": (None,),
    "ways": (),
}


class Console:
    """A book that is changed and asked by commands; it equals only itself."""

    def __init__(self, text):
        self.book = Book(Counts.read(text))

    def execute(self, command):
        """Execute a command and return its answer."""
        word, *values = _parts(command)
        if word in ("learn", "forget"):
            self.book.do((word, tuple(values)))
        elif word in ("correct", "extend", "limit"):
            self.book.do((word, *values))
        elif word == "undo":
            self.book.undo()
        else:
            return _answer(self.book, word, values)
        return "ok"


def _parts(command):
    """Return a list of the word of a command and its numbers, some of which may be None."""
    if not isinstance(command, str):
        raise InvalidCommand(command)
    words = command.split(" ")
    if words[0] not in FORMS or len(words) != 1 + len(FORMS[words[0]]):
        raise InvalidCommand(command)
    parts = [words[0]]
    for text, instead in zip(words[1:], FORMS[words[0]]):
        if text != instead and not is_written_number(text, MAX_DIGITS):
            raise InvalidCommand(command)
        parts.append(None if text == instead else int(text))
    return parts


def _answer(book, word, values):
    """Return the answer to a command that changes nothing."""
    if word == "counts":
        return str(book.counts)
    if word == "known":
        return _listed([f"{arrived}-{left}" for arrived, left in book.known])
    if word == "log":
        return str(len(book))
    if word == "within":
        return _bounds(book.within(*values))
    if word == "long":
        return _bounds(book.long_stays(*values))
    if word == "leave":
        return _listed([str(tick) for tick in book.leave_ticks(*values)])
    return str(ways(book.others))


def _listed(texts):
    """Return texts with spaces between them, or `none`."""
    return " ".join(texts) if texts else "none"


def _bounds(numbers):
    """Return the least and the greatest number as a text, or one number if they are equal."""
    least, greatest = numbers
    return str(least) if least == greatest else f"{least} to {greatest}"
