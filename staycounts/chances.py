"""Chances: in how many ways everything can have happened, with all people told apart."""

from math import comb, gcd

from staycounts.arguments import check_range, check_tick
from staycounts.counts import check_counts
from staycounts.errors import InvalidHistory, InvalidTick
from staycounts.histories import is_history


def ways(counts, history=None):
    """Return the number of all ways, or of those that have this history."""
    check_counts(counts)
    if history is None:
        return _number_of_all(counts)
    return _number_with(counts, history)


def chance(counts, history):
    """Return the chance of a history, as a fraction."""
    return _lowest(_number_with(counts, history), _number_of_all(counts))


def stay_chance(counts, arrived, left):
    """Return the chance that one certain person who arrived at a tick has this stay, as a fraction."""
    check_counts(counts)
    check_tick(arrived, 0, len(counts) - 1)
    if counts.arrivals[arrived] == 0:
        raise InvalidTick(arrived)
    check_tick(left, arrived, len(counts))
    top, bottom = _staying(counts, arrived, left)
    if left < len(counts) and top > 0:
        leaving = counts.departures[left]
        return _lowest(top * leaving, bottom * (leaving + counts.present[left]))
    return _lowest(top, bottom)


def mean_within(counts, first, last):
    """Return the mean number of people who come and leave within a range, as a fraction."""
    check_counts(counts)
    check_range(len(counts), first, last)
    mean = (0, 1)
    for arrived in range(first, last + 1):
        top, bottom = _staying(counts, arrived, last + 1)
        mean = _sum(mean, (counts.arrivals[arrived] * (bottom - top), bottom))
    return mean


def _number_of_all(counts):
    """Return the number of all ways."""
    # Whoever has left before, at each tick any of those present can be the ones who leave.
    number = 1
    for leaving, staying in zip(counts.departures, counts.present):
        number = number * comb(leaving + staying, leaving)
    return number


def _number_with(counts, history):
    """Return the number of ways that have a history."""
    if not is_history(counts, history):
        raise InvalidHistory(history)
    number = 1
    waiting = list(counts.arrivals)
    for arrived, _, people in history:
        number = number * comb(waiting[arrived], people)
        waiting[arrived] -= people
    return number


def _staying(counts, arrived, behind):
    """Return the chance that a person who arrived at a tick has not left before another one, not in lowest terms."""
    top = 1
    bottom = 1
    for leaving, staying in list(zip(counts.departures, counts.present))[arrived:behind]:
        if staying == 0:
            # All have left, and later there may be nobody to choose from.
            return (0, 1)
        top = top * staying
        bottom = bottom * (leaving + staying)
    return (top, bottom)


def _sum(one, other):
    """Return the sum of two fractions."""
    return _lowest(one[0] * other[1] + other[0] * one[1], one[1] * other[1])


def _lowest(top, bottom):
    """Return a fraction in lowest terms."""
    divisor = gcd(top, bottom)
    return (top // divisor, bottom // divisor)
