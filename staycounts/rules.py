"""Rules, which choose for each departure who of the people present leaves."""

from staycounts.arguments import check_length
from staycounts.counts import check_counts
from staycounts.errors import InvalidName
from staycounts.triples import history_of


class Rule:
    """The base class of all rules; it chooses as EldestFirst does."""

    def __call__(self, counts):
        """Return the history in which the rule chooses all departures."""
        return _chosen_history(counts, _eldest_first)

    def __eq__(self, other):
        return _are_equal(self, other)

    def __str__(self):
        return "rule"

    @staticmethod
    def named(name, length=1):
        """Return the rule with this name, and with this length if it has one."""
        if not isinstance(name, str):
            raise InvalidName(name)
        if name == "eldest":
            return EldestFirst()
        if name == "youngest":
            return YoungestFirst()
        if name == "most long":
            return MostLong(length)
        if name == "fewest long":
            return FewestLong(length)
        raise InvalidName(name)


class EldestFirst(Rule):
    """The rule that chooses the eldest of all who are present."""

    def __call__(self, counts):
        """Return the history in which the rule chooses all departures."""
        return _chosen_history(counts, _eldest_first)

    def __eq__(self, other):
        return _are_equal(self, other)

    def __str__(self):
        return "eldest"


class YoungestFirst(Rule):
    """The rule that chooses the youngest of all who are present."""

    def __call__(self, counts):
        """Return the history in which the rule chooses all departures."""
        return _chosen_history(counts, _youngest_first)

    def __eq__(self, other):
        return _are_equal(self, other)

    def __str__(self):
        return "youngest"


class MostLong(YoungestFirst):
    """The rule that chooses the youngest of those present for at least a length, else the youngest."""

    def __init__(self, length):
        check_length(length, 1)
        self.length = length

    def __call__(self, counts):
        """Return the history in which the rule chooses all departures."""
        return _chosen_history(counts, lambda tick: _youngest_long_first(tick, self.length))

    def __eq__(self, other):
        return _are_equal(self, other)

    def __str__(self):
        return f"most long {self.length}"


class FewestLong(EldestFirst):
    """The rule that chooses the eldest of those present for less than a length, else the eldest."""

    def __init__(self, length):
        check_length(length, 1)
        self.length = length

    def __call__(self, counts):
        """Return the history in which the rule chooses all departures."""
        return _chosen_history(counts, lambda tick: _eldest_short_first(tick, self.length))

    def __eq__(self, other):
        return _are_equal(self, other)

    def __str__(self):
        return f"fewest long {self.length}"


def _are_equal(rule, other):
    """Return whether a rule equals another value."""
    # The name tells both the class and the length of a rule.
    return isinstance(other, Rule) and str(rule) == str(other)


def _eldest_first(tick):
    """Return all ticks at which those present at a tick can have arrived, the eldest first."""
    return list(range(tick + 1))


def _youngest_first(tick):
    """Return the same ticks, the youngest first."""
    return _eldest_first(tick)[::-1]


def _youngest_long_first(tick, length):
    """Return the same ticks, those at least a length ago first, and of both parts the youngest first."""
    ticks = _youngest_first(tick)
    return ticks[length:] + ticks[:length]


def _eldest_short_first(tick, length):
    """Return the same ticks, those less than a length ago first, and of both parts the eldest first."""
    ticks = _eldest_first(tick)
    return ticks[-length:] + ticks[:-length]


def _chosen_history(counts, order):
    """Return the history in which people leave in the order of ticks that a function gives for each departure."""
    check_counts(counts)
    waiting = list(counts.arrivals)
    numbers = {}
    for tick in range(len(counts)):
        leaving = counts.departures[tick]
        for arrived in order(tick):
            number = min(leaving, waiting[arrived])
            _put(numbers, (arrived, tick), number)
            waiting[arrived] -= number
            leaving -= number
    for arrived, number in enumerate(waiting):
        _put(numbers, (arrived, len(counts)), number)
    return history_of(numbers)


def _put(numbers, stay, number):
    """Note the number of people who have a stay, if there are any."""
    if number > 0:
        numbers[stay] = number
