"""Counts: how many people arrive and how many leave at each tick."""

from staycounts.arguments import check_number, check_stays, check_tick, is_integer_from, is_written_number
from staycounts.errors import Impossible, InvalidCounts, InvalidText, NotCounts, TooMany
from staycounts.tallies import first_shortage, numbers_without, present_after


class Counts:
    """The numbers of people who arrive and leave at each tick; they never change."""

    MAX_TICKS = 60
    MAX_PEOPLE = 999

    def __init__(self, arrivals, departures):
        _check_lengths(arrivals, departures)
        _check_numbers(arrivals, departures)
        self.arrivals = arrivals
        self.departures = departures

    @staticmethod
    def read(text):
        """Return the Counts of which the text is the `str`."""
        if not isinstance(text, str):
            raise InvalidText(text)
        arrivals = []
        departures = []
        for word in text.split(" "):
            arriving, _, leaving = word.partition("/")
            if not _is_written_number(arriving) or not _is_written_number(leaving):
                raise InvalidText(text)
            arrivals.append(int(arriving))
            departures.append(int(leaving))
        try:
            return Counts(tuple(arrivals), tuple(departures))
        except InvalidCounts:
            raise InvalidText(text) from None

    @classmethod
    def quiet(cls, ticks):
        """Return Counts with so many ticks at which nobody arrives or leaves."""
        check_number(ticks, 1, cls.MAX_TICKS)
        return cls((0,) * ticks, (0,) * ticks)

    @property
    def present(self):
        """The numbers of people present after each tick."""
        return present_after(self.arrivals, self.departures)

    @property
    def people(self):
        """The number of all arrivals."""
        return sum(self.arrivals)

    def __len__(self):
        return len(self.arrivals)

    def __eq__(self, other):
        return isinstance(other, Counts) and self.arrivals == other.arrivals and self.departures == other.departures

    def __str__(self):
        return " ".join([f"{arriving}/{leaving}" for arriving, leaving in zip(self.arrivals, self.departures)])

    def __repr__(self):
        return f"Counts({len(self.arrivals)} ticks, {self.people} people)"

    def __getitem__(self, at):
        check_tick(at, 0, len(self.arrivals) - 1)
        return (self.arrivals[at], self.departures[at])

    def __iter__(self):
        # Without this, Python would iterate by index and end with InvalidTick.
        raise TypeError("Counts are not iterated over")

    def __add__(self, other):
        check_counts(other)
        if len(self.arrivals) + len(other.arrivals) > Counts.MAX_TICKS:
            raise TooMany(Counts.MAX_TICKS)
        if self.people + other.people > Counts.MAX_PEOPLE:
            raise TooMany(Counts.MAX_PEOPLE)
        return Counts(self.arrivals + other.arrivals, self.departures + other.departures)

    def changed(self, tick, *, arrivals=None, departures=None):
        """Return the Counts with other numbers at a tick; None leaves a number as it is."""
        check_tick(tick, 0, len(self.arrivals) - 1)
        if arrivals is not None:
            check_number(arrivals, 0, Counts.MAX_PEOPLE)
        if departures is not None:
            check_number(departures, 0, Counts.MAX_PEOPLE)
        return Counts(_replaced(self.arrivals, tick, arrivals), _replaced(self.departures, tick, departures))

    def extended(self, arrivals, departures):
        """Return the Counts with one more tick with these numbers."""
        check_number(arrivals, 0, Counts.MAX_PEOPLE)
        check_number(departures, 0, Counts.MAX_PEOPLE)
        if len(self.arrivals) >= Counts.MAX_TICKS:
            raise TooMany(Counts.MAX_TICKS)
        return Counts(self.arrivals + (arrivals,), self.departures + (departures,))

    def without(self, *stays):
        """Return the Counts of all other people, if these stays are known."""
        check_stays(len(self.arrivals), stays)
        arrivals, departures = numbers_without(self.arrivals, self.departures, stays)
        shortage = first_shortage(arrivals, departures)
        if shortage is not None:
            word, tick = shortage
            raise Impossible(word, tick)
        return Counts(arrivals, departures)


def check_counts(value):
    """Raise NotCounts if a value is not a Counts."""
    if not isinstance(value, Counts):
        raise NotCounts(value)


def _check_lengths(arrivals, departures):
    """Raise InvalidCounts if these are not two tuples of one length that is allowed."""
    if not isinstance(arrivals, tuple) or not isinstance(departures, tuple):
        raise InvalidCounts(None)
    if len(arrivals) != len(departures) or not 1 <= len(arrivals) <= Counts.MAX_TICKS:
        raise InvalidCounts(None)


def _check_numbers(arrivals, departures):
    """Raise InvalidCounts with the first tick at which the numbers are not valid."""
    people = 0
    present = 0
    for tick, (arriving, leaving) in enumerate(zip(arrivals, departures)):
        if not _is_number(arriving) or not _is_number(leaving):
            raise InvalidCounts(tick)
        people = people + arriving
        present = present + arriving - leaving
        if people > Counts.MAX_PEOPLE or present < 0:
            raise InvalidCounts(tick)


def _is_number(value):
    """Return whether a value is a number of people at a tick."""
    return is_integer_from(value, 0, Counts.MAX_PEOPLE)


def _is_written_number(text):
    """Return whether a text is a number of people in digits, without leading zeros."""
    return is_written_number(text, len(str(Counts.MAX_PEOPLE)))


def _replaced(numbers, tick, number):
    """Return the numbers with another number at a tick, or as they are for None."""
    if number is None:
        return numbers
    return numbers[:tick] + (number,) + numbers[tick + 1:]
