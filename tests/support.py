"""What several tests share: checks of errors, and answers found by trying everything."""

import unittest
from collections import Counter
from itertools import combinations_with_replacement, product

from staycounts.counts import Counts

# Values that are no integers in the sense of the document, whatever the limits are.
NO_INTEGERS = (True, False, "1", "", b"1", (), (1,), [1], {}, {1: 1}, object(), Counts((1,), (1,)), len)

# Values that are no Counts, and values that are no stays of the example below.
NO_COUNTS = (None, 1, True, "1/0", (1, 0), ((1,), (0,)), [1], {}, Counts, object())
NO_STAYS = (None, 1, "01", b"01", [0, 1], {0: 1, 1: 0}, (), (0,), (0, 1, 1), ((0, 1),), (1, 0), (-1, 1), (-1, -1),
            (0, 5), (4, 4), (4, 5), (0, -1), (True, 1), (0, True), (False, 0), (0, False), (0, None), (None, 1),
            ("0", 1), (0, "1"), ((0,), 1), (0, [1]), Counts((2, 0, 1, 0), (0, 1, 1, 1)), object())


def example():
    """Return the counts of the document's examples."""
    return Counts((2, 0, 1, 0), (0, 1, 1, 1))


class ErrorCase(unittest.TestCase):
    """A test case with a check of an error, its class and its fields."""

    def fails(self, error_class, fields, call, *values, **named):
        with self.assertRaises(error_class) as caught:
            call(*values, **named)
        error = caught.exception
        self.assertIs(type(error), error_class)
        self.assertEqual(sorted(vars(error)), sorted(fields))
        for name, field in fields.items():
            self.same(getattr(error, name), field)

    def same(self, found, expected):
        """Check that two values are equal and of one class: True is not 1."""
        self.assertIs(type(found), type(expected))
        self.assertEqual(found, expected)


def small_counts(ticks, people):
    """Yield all Counts with so many ticks and at most so many people."""
    numbers = range(people + 1)
    for arrivals in product(numbers, repeat=ticks):
        if sum(arrivals) <= people:
            for departures in product(numbers, repeat=ticks):
                if all(sum(departures[:k]) <= sum(arrivals[:k]) for k in range(ticks + 1)):
                    yield Counts(arrivals, departures)


def stays_of_size(ticks):
    """Return all stays of counts with so many ticks."""
    return [(a, b) for a in range(ticks) for b in range(a, ticks + 1)]


def all_histories(counts):
    """Return all histories, each as a Counter of stays, by trying who leaves at each tick."""
    ticks = len(counts.arrivals)
    found = {((), ())}
    for tick in range(ticks):
        longer = set()
        for inside, ended in found:
            present = inside + (tick,) * counts.arrivals[tick]
            for leaving in set(choices(present, counts.departures[tick])):
                staying = tuple(sorted((Counter(present) - Counter(leaving)).elements()))
                longer.add((staying, tuple(sorted(ended + tuple((a, tick) for a in leaving)))))
        found = longer
    return [Counter(ended + tuple((a, ticks) for a in inside)) for inside, ended in found]


def choices(present, number):
    """Yield all ways to choose so many of the people present, as sorted tuples of arrivals."""
    held = Counter(present)
    for chosen in combinations_with_replacement(sorted(held), number):
        if not Counter(chosen) - held:
            yield chosen


def has_all(history, stays):
    """Return whether a history has each stay as many times as it is known."""
    return not Counter(stays) - history


def as_history(history):
    """Return a Counter of stays as the tuple of triples that the document calls a history."""
    return tuple(sorted((arrived, left, number) for (arrived, left), number in history.items()))


def slow_histories(counts):
    """Return all histories as tuples of triples, in ascending order, without calling the package."""
    return sorted(as_history(history) for history in all_histories(counts))


def random_counts(generator, ticks, people):
    """Return Counts with so many ticks and people, of whom about as many leave as can."""
    arrivals = [0] * ticks
    for _ in range(people):
        arrivals[generator.randrange(ticks)] += 1
    departures = []
    present = 0
    for arriving in arrivals:
        departures.append(generator.randint(0, present + arriving))
        present += arriving - departures[-1]
    return Counts(tuple(arrivals), tuple(departures))


def large_counts():
    """Return counts with 60 ticks and 999 people, of whom 945 leave."""
    return Counts((39,) + (16,) * 58 + (32,), (0,) + (16,) * 58 + (17,))
