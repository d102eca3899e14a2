"""Lengths of stays: limits for all stays, the longest and shortest ones, and how many are long."""

from staycounts.arguments import check_length
from staycounts.counts import check_counts
from staycounts.covers import least_long_cover, least_short_cover
from staycounts.rules import EldestFirst, FewestLong, MostLong
from staycounts.stays import possible_departures
from staycounts.triples import number_of_long


def can_keep(counts, *, least=0, most=60):
    """Return whether some history keeps the limits."""
    return breach(counts, least=least, most=most) is None


def breach(counts, *, least=0, most=60):
    """Return why no history keeps the limits, as a pair (word, k), or None if one does."""
    check_counts(counts)
    check_length(least, 0)
    check_length(most, 0)
    # EldestFirst lets the k-th person who arrived leave as the k-th one, and
    # keeps the limits if any history does.
    rule = EldestFirst()
    k = 1
    for arrived, left, number in rule(counts):
        if left - arrived > most:
            return ("late", k)
        if left < len(counts) and left - arrived < least:
            return ("early", k)
        k += number
    return None


def longest(counts):
    """Return the least and the greatest length that the longest of all stays can have, or None."""
    check_counts(counts)
    if counts.people == 0:
        return None
    return (max(_eldest_lengths(counts)), max(_possible_lengths(counts)))


def shortest(counts):
    """Return the least and the greatest length that the shortest of all stays can have, or None."""
    check_counts(counts)
    if counts.people == 0:
        return None
    return (min(_possible_lengths(counts)), min(_eldest_lengths(counts)))


def long_stays(counts, length):
    """Return the least and the greatest number of ended stays of at least a length."""
    check_counts(counts)
    fewest = FewestLong(length)
    most = MostLong(length)
    ticks = len(counts)
    return (number_of_long(fewest(counts), ticks, length), number_of_long(most(counts), ticks, length))


def barrier(counts, length):
    """Return a triple of ticks that meets each ended stay of at least a length.

    The people who are counted at these ticks are as many as such stays can be.
    """
    check_counts(counts)
    check_length(length, 1)
    return least_long_cover(counts, length)[1:]


def short_barrier(counts, length):
    """Return a triple of ticks that meets each ended stay shorter than a length.

    The people who are counted at these ticks are as many as such stays can be.
    """
    check_counts(counts)
    check_length(length, 1)
    return least_short_cover(counts, length)[1:]


def _eldest_lengths(counts):
    """Return the lengths of all stays that EldestFirst chooses."""
    # Nobody can make the longest stay shorter, or the shortest one longer, than this rule.
    rule = EldestFirst()
    return [left - arrived for arrived, left, _ in rule(counts)]


def _possible_lengths(counts):
    """Return the lengths of all stays that somebody can have."""
    return [left - arrived for arrived in range(len(counts)) for left in possible_departures(counts, arrived)]
