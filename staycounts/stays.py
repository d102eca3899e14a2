"""Single stays: which known stays are possible, and how many people can have a stay."""

from staycounts.arguments import check_stays, check_tick, is_stay_within
from staycounts.counts import check_counts
from staycounts.tallies import first_shortage, numbers_without


def is_stay(counts, value):
    """Return whether a value is a stay of the counts."""
    check_counts(counts)
    return is_stay_within(len(counts), value)


def obstacle(counts, *stays):
    """Return why the known stays are not possible, as a pair (word, tick), or None if they are."""
    check_counts(counts)
    check_stays(len(counts), stays)
    arrivals, departures = numbers_without(counts.arrivals, counts.departures, stays)
    return first_shortage(arrivals, departures)


def possible(counts, *stays):
    """Return whether the known stays are possible."""
    return obstacle(counts, *stays) is None


def possible_departures(counts, arrived, *stays):
    """Return when somebody who arrived at this tick can have left, besides the known stays."""
    check_counts(counts)
    check_tick(arrived, 0, len(counts) - 1)
    others = counts.without(*stays)
    return tuple([left for left in range(arrived, len(counts) + 1) if possible(others, (arrived, left))])


def possible_arrivals(counts, left, *stays):
    """Return when somebody who left at this tick can have arrived, besides the known stays."""
    check_counts(counts)
    check_tick(left, 0, len(counts))
    others = counts.without(*stays)
    last = min(left, len(counts) - 1)
    return tuple([arrived for arrived in range(last + 1) if possible(others, (arrived, left))])


def bounds(counts, arrived, left):
    """Return the least and the greatest number of people who have this stay, over all histories."""
    check_counts(counts)
    check_tick(arrived, 0, len(counts) - 1)
    check_tick(left, arrived, len(counts))
    return (_least_number(counts, arrived, left), _greatest_number(counts, arrived, left))


def _least_number(counts, arrived, left):
    """Return the least number of people who have a stay."""
    # Whoever arrived at this tick and has another stay leaves before `left` or is
    # present after it. If `left` is the end of the counts, nobody can be present later.
    elsewhere = sum(counts.departures[arrived:left]) + sum(counts.present[left:left + 1])
    return max(0, counts.arrivals[arrived] - elsewhere)


def _greatest_number(counts, arrived, left):
    """Return the greatest number of people who have a stay."""
    # The same stay is possible so many times as nothing that it takes part in is
    # exceeded. If `left` is the end of the counts, no departure limits it.
    leaving = counts.departures[left:left + 1]
    covered = counts.present[arrived:left]
    return min((counts.arrivals[arrived],) + leaving + covered)
