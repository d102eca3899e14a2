"""Histories: which people can have had which stays."""

from staycounts.arguments import check_stays, is_integer_from, is_stay_within
from staycounts.counts import Counts, check_counts
from staycounts.errors import InvalidHistory
from staycounts.rules import EldestFirst
from staycounts.triples import history_of, numbers_of


def is_history(counts, value):
    """Return whether a value is a history of the counts."""
    check_counts(counts)
    if not _are_triples(len(counts), value):
        return False
    arrivals = [0] * len(counts)
    # Those who are still present are counted behind the last tick.
    departures = [0] * (len(counts) + 1)
    for arrived, left, number in value:
        arrivals[arrived] += number
        departures[left] += number
    return tuple(arrivals) == counts.arrivals and tuple(departures[:-1]) == counts.departures


def has_stays(counts, history, *stays):
    """Return whether a history has each of these stays at least as many times as it is passed."""
    if not is_history(counts, history):
        raise InvalidHistory(history)
    check_stays(len(counts), stays)
    numbers = numbers_of(history)
    return all([stays.count(stay) <= numbers.get(stay, 0) for stay in stays])


def histories(counts):
    """Yield all histories of the counts, each once, in ascending order."""
    check_counts(counts)
    # Each beginning of a history comes with the arrivals and departures of all
    # people who are not in it yet, and with the stay about which to decide next.
    beginnings = [((), counts.arrivals, counts.departures, 0, 0)]
    while beginnings:
        history, arrivals, departures, arrived, left = beginnings.pop()
        if arrived == len(arrivals):
            yield history
        else:
            longer = _longer_beginnings(history, arrivals, departures, arrived, left)
            beginnings.extend(longer[::-1])


def history_with(counts, *stays):
    """Return a history that has the known stays: EldestFirst chooses for all other people."""
    check_counts(counts)
    rule = EldestFirst()
    numbers = numbers_of(rule(counts.without(*stays)))
    for arrived, left in stays:
        numbers[(arrived, left)] = numbers.get((arrived, left), 0) + 1
    return history_of(numbers)


def _are_triples(ticks, value):
    """Return whether a value is a tuple of stays with numbers, the stays in ascending order."""
    if not isinstance(value, tuple) or not all([_is_triple(ticks, triple) for triple in value]):
        return False
    stays = [triple[:2] for triple in value]
    return all([one < following for one, following in zip(stays, stays[1:])])


def _is_triple(ticks, value):
    """Return whether a value is a stay of counts with so many ticks, with a number behind it."""
    if not isinstance(value, tuple) or len(value) != 3:
        return False
    return is_stay_within(ticks, value[:2]) and is_integer_from(value[2], 1, Counts.MAX_PEOPLE)


def _longer_beginnings(history, arrivals, departures, arrived, left):
    """Return the beginnings with the number of people who have the next stay, in ascending order."""
    beginnings = []
    for number in _possible_numbers(arrivals, departures, arrived, left):
        triples = ((arrived, left, number),) if number > 0 else ()
        following = (arrived, left + 1)
        if number == arrivals[arrived]:
            following = (arrived + 1, arrived + 1)
        fewer_arrivals = _less(arrivals, arrived, number)
        fewer_departures = _less(departures, left, number)
        beginnings.append((history + triples, fewer_arrivals, fewer_departures, *following))
    return beginnings


def _possible_numbers(arrivals, departures, arrived, left):
    """Return how many of those who arrived at a tick and did not leave before another one can leave there."""
    greatest = arrivals[arrived]
    least = greatest
    if left < len(departures):
        # Only those who arrived later can be the others who leave up to this tick.
        others = sum(arrivals[arrived + 1:left + 1]) - sum(departures[:left])
        greatest = min(greatest, departures[left])
        least = max(0, departures[left] - others)
    numbers = list(range(max(1, least), greatest + 1))
    # A history without this stay has a greater one in its place, so it comes last.
    return numbers if least > 0 else [*numbers, 0]


def _less(numbers, tick, number):
    """Return the numbers with one of them made less, or as they are if the tick is behind them."""
    return numbers[:tick] + tuple([old - number for old in numbers[tick:tick + 1]]) + numbers[tick + 1:]
