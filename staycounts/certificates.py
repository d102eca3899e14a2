"""Certificates: claims about counts, each with a proof that the checker accepts."""

from staycounts.histories import history_with
from staycounts.lengths import barrier, breach, long_stays, short_barrier
from staycounts.ranges import cut, history_within, within
from staycounts.rules import EldestFirst, FewestLong, MostLong
from staycounts.stays import obstacle


def certify_known(counts, *stays):
    """Return the claim that the known stays are possible, or that they are not, and its certificate."""
    why = obstacle(counts, *stays)
    if why is None:
        return (_claim("possible", counts, stays), history_with(counts, *stays))
    return (_claim("impossible", counts, stays), why)


def certify_within(counts, first, last):
    """Return the claim how many people came and left within a range, and its certificate."""
    least, greatest = within(counts, first, last)
    fewest = history_within(counts, first, last, least)
    most = history_within(counts, first, last, greatest)
    return (_claim("within", counts, first, last, least, greatest), (fewest, most, cut(counts, first, last)))


def certify_limits(counts, *, least=0, most=60):
    """Return the claim that some history keeps the limits, or that none does, and its certificate."""
    why = breach(counts, least=least, most=most)
    if why is None:
        rule = EldestFirst()
        return (_claim("kept", counts, least, most), rule(counts))
    return (_claim("broken", counts, least, most), why)


def certify_long(counts, length):
    """Return the claim how many ended stays have at least a length, and its certificate."""
    least, greatest = long_stays(counts, length)
    fewest = FewestLong(length)
    most = MostLong(length)
    ticks = (barrier(counts, length), short_barrier(counts, length))
    return (_claim("long", counts, length, least, greatest), (fewest(counts), most(counts), *ticks))


def _claim(word, counts, *values):
    """Return a claim about counts."""
    return (word, counts.arrivals, counts.departures, *values)
