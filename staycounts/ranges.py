"""Ranges of ticks: how many people came and left within them, or were present throughout."""

from staycounts.arguments import check_number, check_range
from staycounts.counts import check_counts
from staycounts.histories import history_with
from staycounts.rules import YoungestFirst
from staycounts.tallies import cut_sum, least_within


def within(counts, first, last):
    """Return the least and the greatest number of people who came and left within a range."""
    place = cut(counts, first, last)
    arrivals, departures = counts.arrivals, counts.departures
    return (least_within(arrivals, departures, first, last), cut_sum(arrivals, departures, first, place, last))


def throughout(counts, first, last):
    """Return the least and the greatest number of people who were present throughout a range."""
    check_counts(counts)
    check_range(len(counts), first, last)
    # Of those present after the first tick, the ones who leave within the range
    # do not stay throughout. Whoever else leaves then has come after the first tick.
    staying = counts.present[first] - sum(counts.departures[first + 1:last + 1])
    if first == last:
        return (staying, staying)
    least, greatest = within(counts, first + 1, last)
    return (staying + least, staying + greatest)


def cut(counts, first, last):
    """Return the first place at which the arrivals of a range before it and the departures from there on are fewest."""
    check_counts(counts)
    check_range(len(counts), first, last)
    places = list(range(first, last + 2))
    return min(places, key=lambda place: cut_sum(counts.arrivals, counts.departures, first, place, last))


def history_within(counts, first, last, number):
    """Return a history in which exactly this number of people came and left within a range."""
    least, greatest = within(counts, first, last)
    check_number(number, least, greatest)
    rule = YoungestFirst()
    stays = _stays_within(rule(counts), first, last)
    # YoungestFirst gives enough such stays. EldestFirst, which chooses for all
    # others, adds none to them, because the number is not below the least one.
    known = stays[:number]
    return history_with(counts, *known)


def _stays_within(history, first, last):
    """Return all stays of a history within a range, each as many times as it occurs."""
    stays = []
    for arrived, left, number in history:
        if first <= arrived and left <= last:
            stays.extend([(arrived, left)] * number)
    return stays
