"""The checker: whether a certificate proves a claim about counts.

It takes any values. So each function here first looks at the form of what it
gets, and compares values only when it knows what they are: True equals 1 in
Python, but it is no integer in a claim.
"""

from staycounts.arguments import MAX_LENGTH, is_integer_from, is_stay_within
from staycounts.counts import Counts
from staycounts.errors import InvalidCounts
from staycounts.histories import has_stays, is_history
from staycounts.tallies import cut_sum, least_within, numbers_without, shortages
from staycounts.triples import number_of_long, number_within


def _proves_possible(counts, values, certificate):
    """Return whether a certificate is a history that has the known stays."""
    if len(values) != 1 or not _are_stays(counts, values[0]) or not is_history(counts, certificate):
        return False
    stays = values[0]
    return has_stays(counts, certificate, *stays)


def _proves_impossible(counts, values, certificate):
    """Return whether a certificate tells what too many of the known stays take part in."""
    if len(values) != 1 or not _are_stays(counts, values[0]) or not _is_word_with_number(certificate):
        return False
    arrivals, departures = numbers_without(counts.arrivals, counts.departures, values[0])
    return certificate in shortages(arrivals, departures)


def _proves_within(counts, values, certificate):
    """Return whether a certificate has a history with the least and one with the greatest number, and a cut."""
    if len(values) != 4 or not _is_tuple_of(3, certificate):
        return False
    first, last, low, high = values
    if not _is_range(counts, first, last) or not _is_number(low) or not _is_number(high):
        return False
    fewest, most, place = certificate
    if not is_history(counts, fewest) or not is_history(counts, most) or not is_integer_from(place, first, last + 1):
        return False
    if number_within(fewest, first, last) != low or number_within(most, first, last) != high:
        return False
    arrivals, departures = counts.arrivals, counts.departures
    if low != least_within(arrivals, departures, first, last):
        return False
    return high == cut_sum(arrivals, departures, first, place, last)


def _proves_kept(counts, values, certificate):
    """Return whether a certificate is a history that keeps the limits."""
    if not _are_limits(values) or not is_history(counts, certificate):
        return False
    least, most = values
    # Who is still present may stay longer than until now.
    return all([left - arrived <= most and (left == len(counts) or left - arrived >= least)
                for arrived, left, _ in certificate])


def _proves_broken(counts, values, certificate):
    """Return whether a certificate tells for which person no history keeps the limits."""
    if not _are_limits(values) or not _is_word_with_number(certificate):
        return False
    least, most = values
    word, k = certificate
    if word == "late":
        return _is_late(counts, most, k)
    return word == "early" and _is_early(counts, least, k)


def _proves_long(counts, values, certificate):
    """Return whether a certificate has a history with the least and one with the greatest number, and two barriers."""
    if len(values) != 3 or not _is_tuple_of(4, certificate):
        return False
    length, low, high = values
    if not is_integer_from(length, 1, MAX_LENGTH) or not _is_number(low) or not _is_number(high):
        return False
    fewest, most, long_ticks, short_ticks = certificate
    ticks = len(counts)
    if not is_history(counts, fewest) or not is_history(counts, most):
        return False
    if number_of_long(fewest, ticks, length) != low or number_of_long(most, ticks, length) != high:
        return False
    ended = [(arrived, left) for arrived in range(ticks) for left in range(arrived, ticks)]
    longer = [(arrived, left) for arrived, left in ended if left - arrived >= length]
    shorter = [(arrived, left) for arrived, left in ended if left - arrived < length]
    if not _is_barrier(counts, long_ticks, longer, high):
        return False
    return _is_barrier(counts, short_ticks, shorter, sum(counts.departures) - low)


PROOFS = {
    "possible": _proves_possible,
    "impossible": _proves_impossible,
    "within": _proves_within,
    "kept": _proves_kept,
    "broken": _proves_broken,
    "long": _proves_long,
}


def accepts(claim, certificate):
    """Return whether a certificate proves a claim."""
    if not isinstance(claim, tuple) or len(claim) < 3 or not isinstance(claim[0], str):
        return False
    word, arrivals, departures, *values = claim
    if word not in PROOFS:
        return False
    try:
        counts = Counts(arrivals, departures)
    except InvalidCounts:
        return False
    proves = PROOFS[word]
    return proves(counts, values, certificate)


def _is_tuple_of(size, value):
    """Return whether a value is a tuple with so many parts."""
    return isinstance(value, tuple) and len(value) == size


def _is_number(value):
    """Return whether a value is an integer that can be a number of people."""
    return is_integer_from(value, 0, Counts.MAX_PEOPLE)


def _is_word_with_number(value):
    """Return whether a value is a pair of a string and an integer that can be a number of people, or a tick."""
    return _is_tuple_of(2, value) and isinstance(value[0], str) and _is_number(value[1])


def _are_stays(counts, value):
    """Return whether a value is a tuple of stays of the counts."""
    return isinstance(value, tuple) and all([is_stay_within(len(counts), stay) for stay in value])


def _is_range(counts, first, last):
    """Return whether two values are a range of the counts."""
    ticks = len(counts)
    return is_integer_from(first, 0, ticks - 1) and is_integer_from(last, first, ticks - 1)


def _are_limits(values):
    """Return whether a list contains a least and a greatest length, and nothing else."""
    return len(values) == 2 and all([is_integer_from(value, 0, MAX_LENGTH) for value in values])


def _is_late(counts, most, k):
    """Return whether the k-th person who arrived can leave only after the greatest length."""
    tick = _tick_of(counts.arrivals, k)
    if tick is None or tick + most >= len(counts):
        return False
    return sum(counts.departures[:tick + most + 1]) < k


def _is_early(counts, least, k):
    """Return whether the k-th person who left left too early for the least length."""
    tick = _tick_of(counts.departures, k)
    if tick is None:
        return False
    return sum(counts.arrivals[:max(0, tick - least + 1)]) < k


def _tick_of(numbers, k):
    """Return the tick of the k-th person, counted from 1, or None if there is no such person."""
    people = 0
    for tick, number in enumerate(numbers):
        people += number
        if 1 <= k <= people:
            return tick
    return None


def _is_barrier(counts, value, stays, total):
    """Return whether a value is a triple of ticks that meets all these stays, with this sum of people."""
    if not _is_tuple_of(3, value) or not all([_are_ticks(counts, ticks) for ticks in value]):
        return False
    rows = (counts.arrivals, counts.departures, counts.present)
    people = sum([row[tick] for row, ticks in zip(rows, value) for tick in ticks])
    return people == total and all([_meets(value, arrived, left) for arrived, left in stays])


def _are_ticks(counts, value):
    """Return whether a value is an ascending tuple of ticks of the counts."""
    if not isinstance(value, tuple) or not all([is_integer_from(tick, 0, len(counts) - 1) for tick in value]):
        return False
    return all([one < following for one, following in zip(value, value[1:])])


def _meets(triple, arrived, left):
    """Return whether a stay begins at one of the first ticks, ends at one of the second or covers one of the third."""
    arrivals, departures, covered = triple
    return arrived in arrivals or left in departures or any([arrived <= tick < left for tick in covered])
