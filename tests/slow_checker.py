"""The words of point 42, one by one, and whether a claim is true over all histories of small counts."""

from collections import Counter

from staycounts.counts import Counts
from tests.support import has_all, slow_histories


class Refused(Exception):
    """A claim or a certificate has not the form that is asked for, or its condition does not hold."""


def need(condition):
    """Raise Refused if something does not hold."""
    if not condition:
        raise Refused


def slow_accepts(claim, certificate):
    """Return what accepts returns, by the words of the document."""
    try:
        check(claim, certificate)
    except Refused:
        return False
    return True


def check(claim, certificate):
    """Raise Refused if a certificate does not prove a claim."""
    need(type(claim) is tuple and len(claim) >= 3)
    word, arrivals, departures, *values = claim
    sizes = {"possible": 1, "impossible": 1, "within": 4, "kept": 2, "broken": 2, "long": 3}
    need(type(word) is str and word in sizes and len(values) == sizes[word])
    need_counts(arrivals, departures)
    CHECKS[word](arrivals, departures, *values, certificate)


def need_integer(value, low, high):
    need(type(value) is int and low <= value <= high)


def need_tuple(value, size):
    need(type(value) is tuple and len(value) == size)


def need_counts(arrivals, departures):
    need(type(arrivals) is tuple and type(departures) is tuple and 1 <= len(arrivals) <= 60)
    need(len(arrivals) == len(departures))
    for number in arrivals + departures:
        need_integer(number, 0, 999)
    need(sum(arrivals) <= 999)
    for tick in range(len(arrivals)):
        need(sum(arrivals[:tick + 1]) >= sum(departures[:tick + 1]))


def need_stay(ticks, value):
    need_tuple(value, 2)
    need_integer(value[0], 0, ticks - 1)
    need_integer(value[1], value[0], ticks)


def need_stays(ticks, value):
    need(type(value) is tuple)
    for stay in value:
        need_stay(ticks, stay)


def need_history(arrivals, departures, value):
    """Return the stays of all people of a history, or raise Refused if it is none."""
    need(type(value) is tuple)
    ticks = len(arrivals)
    people = []
    for triple in value:
        need_tuple(triple, 3)
        need_stay(ticks, triple[:2])
        need_integer(triple[2], 1, 999)
        people += [triple[:2]] * triple[2]
    need([triple[:2] for triple in value] == sorted({triple[:2] for triple in value}))
    came, left = Counter(a for a, b in people), Counter(b for a, b in people)
    need(all(came[tick] == arrivals[tick] and left[tick] == departures[tick] for tick in range(ticks)))
    return people


def check_possible(arrivals, departures, stays, certificate):
    need_stays(len(arrivals), stays)
    need(has_all(Counter(need_history(arrivals, departures, certificate)), stays))


def check_impossible(arrivals, departures, stays, certificate):
    need_stays(len(arrivals), stays)
    need_tuple(certificate, 2)
    word, tick = certificate
    need(type(word) is str)
    need_integer(tick, 0, len(arrivals) - 1)
    present = sum(arrivals[:tick + 1]) - sum(departures[:tick + 1])
    need(word == "arrivals" and sum(a == tick for a, b in stays) > arrivals[tick]
         or word == "departures" and sum(b == tick for a, b in stays) > departures[tick]
         or word == "present" and sum(a <= tick < b for a, b in stays) > present)


def check_within(arrivals, departures, first, last, low, high, certificate):
    ticks = len(arrivals)
    need_integer(first, 0, ticks - 1)
    need_integer(last, first, ticks - 1)
    need_integer(low, 0, 10 ** 99)
    need_integer(high, 0, 10 ** 99)
    need_tuple(certificate, 3)
    for history, number in zip(certificate, (low, high)):
        people = need_history(arrivals, departures, history)
        need(sum(first <= a and b <= last for a, b in people) == number)
    need_integer(certificate[2], first, last + 1)
    need(sum(arrivals[first:certificate[2]]) + sum(departures[certificate[2]:last + 1]) == high)
    need(low == max(0, sum(departures[:last + 1]) - sum(arrivals[:first])))


def check_kept(arrivals, departures, least, most, certificate):
    need_integer(least, 0, 60)
    need_integer(most, 0, 60)
    for a, b in need_history(arrivals, departures, certificate):
        need(b - a <= most and (b == len(arrivals) or b - a >= least))


def check_broken(arrivals, departures, least, most, certificate):
    need_integer(least, 0, 60)
    need_integer(most, 0, 60)
    need_tuple(certificate, 2)
    word, k = certificate
    need(type(word) is str and word in ("late", "early"))
    need_integer(k, 1, 10 ** 99)
    people = [tick for tick, number in enumerate(arrivals if word == "late" else departures) for _ in range(number)]
    need(k <= len(people))
    tick = people[k - 1]
    if word == "late":
        need(tick + most < len(arrivals) and sum(departures[:tick + most + 1]) <= k - 1)
    else:
        need(sum(number for at, number in enumerate(arrivals) if at <= tick - least) < k)


def check_long(arrivals, departures, length, low, high, certificate):
    ticks = len(arrivals)
    need_integer(length, 1, 60)
    need_integer(low, 0, 10 ** 99)
    need_integer(high, 0, 10 ** 99)
    need_tuple(certificate, 4)
    for history, number in zip(certificate, (low, high)):
        people = need_history(arrivals, departures, history)
        need(sum(b < ticks and b - a >= length for a, b in people) == number)
    ended = [(a, b) for a in range(ticks) for b in range(a, ticks)]
    need_barrier(arrivals, departures, certificate[2], [(a, b) for a, b in ended if b - a >= length], high)
    shorter = [(a, b) for a, b in ended if b - a < length]
    need_barrier(arrivals, departures, certificate[3], shorter, sum(departures) - low)


def need_barrier(arrivals, departures, value, stays, total):
    need_tuple(value, 3)
    for ticks in value:
        need(type(ticks) is tuple)
        for tick in ticks:
            need_integer(tick, 0, len(arrivals) - 1)
        need(list(ticks) == sorted(set(ticks)))
    for a, b in stays:
        need(a in value[0] or b in value[1] or set(value[2]) & set(range(a, b)))
    present = [sum(arrivals[:tick + 1]) - sum(departures[:tick + 1]) for tick in range(len(arrivals))]
    rows = zip((arrivals, departures, present), value)
    need(sum(row[tick] for row, ticks in rows for tick in ticks) == total)


CHECKS = {"possible": check_possible, "impossible": check_impossible, "within": check_within, "kept": check_kept,
          "broken": check_broken, "long": check_long}


def is_true(claim):
    """Return whether a claim, whose parts have the right form, is true over all histories."""
    word, arrivals, departures, *values = claim
    ticks = len(arrivals)
    found = [{(a, b): number for a, b, number in history} for history in slow_histories(Counts(arrivals, departures))]
    if word in ("possible", "impossible"):
        possible = any(has_all(Counter(history), values[0]) for history in found)
        return possible == (word == "possible")
    if word in ("kept", "broken"):
        least, most = values
        kept = any(all(b - a <= most and (b == ticks or b - a >= least) for a, b in history) for history in found)
        return kept == (word == "kept")
    if word == "within":
        first, last, *limits = values
        numbers = [sum(n for (a, b), n in history.items() if first <= a and b <= last) for history in found]
    else:
        length, *limits = values
        numbers = [sum(n for (a, b), n in history.items() if b < ticks and b - a >= length) for history in found]
    return [min(numbers), max(numbers)] == limits
