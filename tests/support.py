"""What several tests share: checks of errors, and answers found by trying everything."""

import unittest
from collections import Counter
from itertools import combinations, combinations_with_replacement, product

from staycounts.counts import Counts

# Values that are no integers in the sense of the document, whatever the limits are.
NO_INTEGERS = (True, False, "1", "", b"1", (), (1,), [1], {}, {1: 1}, object(), Counts((1,), (1,)), len)

# Values that are no Counts, and values that are no stays of the example below.
NO_COUNTS = (None, 1, True, "1/0", (1, 0), ((1,), (0,)), [1], {}, Counts, object())
NO_STAYS = (None, 1, "01", b"01", [0, 1], {0: 1, 1: 0}, (), (0,), (0, 1, 1), ((0, 1),), (1, 0), (-1, 1), (-1, -1),
            (0, 5), (4, 4), (4, 5), (0, -1), (True, 1), (0, True), (False, 0), (0, False), (0, None), (None, 1),
            ("0", 1), (0, "1"), ((0,), 1), (0, [1]), Counts((2, 0, 1, 0), (0, 1, 1, 1)), object())


def example():
    """Return the counts of the document's examples."""
    return Counts((2, 0, 1, 0), (0, 1, 1, 1))


class ErrorCase(unittest.TestCase):
    """A test case with a check of an error, its class and its fields."""

    def fails(self, error_class, fields, call, *values, **named):
        with self.assertRaises(error_class) as caught:
            call(*values, **named)
        error = caught.exception
        self.assertIs(type(error), error_class)
        self.assertEqual(sorted(vars(error)), sorted(fields))
        for name, field in fields.items():
            self.same(getattr(error, name), field)

    def same(self, found, expected):
        """Check that two values are equal and of one class: True is not 1."""
        self.assertIs(type(found), type(expected))
        self.assertEqual(found, expected)


def small_counts(ticks, people):
    """Yield all Counts with so many ticks and at most so many people."""
    numbers = range(people + 1)
    for arrivals in product(numbers, repeat=ticks):
        if sum(arrivals) <= people:
            for departures in product(numbers, repeat=ticks):
                if all(sum(departures[:k]) <= sum(arrivals[:k]) for k in range(ticks + 1)):
                    yield Counts(arrivals, departures)


def stays_of_size(ticks):
    """Return all stays of counts with so many ticks."""
    return [(a, b) for a in range(ticks) for b in range(a, ticks + 1)]


def ended_stays_of_size(ticks):
    """Return all ended stays of counts with so many ticks."""
    return [(a, b) for a in range(ticks) for b in range(a, ticks)]


def all_histories(counts):
    """Return all histories, each as a Counter of stays, by trying who leaves at each tick."""
    ticks = len(counts.arrivals)
    found = {((), ())}
    for tick in range(ticks):
        longer = set()
        for inside, ended in found:
            present = inside + (tick,) * counts.arrivals[tick]
            for leaving in set(choices(present, counts.departures[tick])):
                staying = tuple(sorted((Counter(present) - Counter(leaving)).elements()))
                longer.add((staying, tuple(sorted(ended + tuple((a, tick) for a in leaving)))))
        found = longer
    return [Counter(ended + tuple((a, ticks) for a in inside)) for inside, ended in found]


def choices(present, number):
    """Yield all ways to choose so many of the people present, as sorted tuples of arrivals."""
    held = Counter(present)
    for chosen in combinations_with_replacement(sorted(held), number):
        if not Counter(chosen) - held:
            yield chosen


def has_all(history, stays):
    """Return whether a history has each stay as many times as it is known."""
    return not Counter(stays) - history


def as_history(history):
    """Return a Counter of stays as the tuple of triples that the document calls a history."""
    return tuple(sorted((arrived, left, number) for (arrived, left), number in history.items()))


def slow_histories(counts):
    """Return all histories as tuples of triples, in ascending order, without calling the package."""
    return sorted(as_history(history) for history in all_histories(counts))


def slow_obstacle(counts, known):
    """Return the obstacle by the words of point 17, tick by tick."""
    for tick in range(len(counts)):
        begin = sum(arrived == tick for arrived, left in known)
        end = sum(left == tick for arrived, left in known)
        cover = sum(arrived <= tick < left for arrived, left in known)
        if begin > counts.arrivals[tick]:
            return ("arrivals", tick)
        if end > counts.departures[tick]:
            return ("departures", tick)
        if cover > counts.present[tick]:
            return ("present", tick)
    return None


def random_counts(generator, ticks, people):
    """Return Counts with so many ticks and people, of whom about as many leave as can."""
    arrivals = [0] * ticks
    for _ in range(people):
        arrivals[generator.randrange(ticks)] += 1
    departures = []
    present = 0
    for arriving in arrivals:
        departures.append(generator.randint(0, present + arriving))
        present += arriving - departures[-1]
    return Counts(tuple(arrivals), tuple(departures))


def random_rows(generator, doors, ticks, people):
    """Return the rows of a chain with so many doors: who arrives, and who passes each door, at each tick."""
    rows = [random_counts(generator, ticks, people).arrivals]
    for _ in range(doors):
        passing = []
        for tick in range(ticks):
            passing.append(generator.randint(0, sum(rows[-1][:tick + 1]) - sum(passing)))
        rows.append(tuple(passing))
    return tuple(rows)


def all_outcomes(rows):
    """Return the stays in the house, as Counters, after everything that can have happened at the doors of a chain."""
    ticks, doors = len(rows[0]), len(rows) - 1
    found = {((),) * (doors + 1)}
    for tick in range(ticks):
        found = {(rooms[0] + (tick,) * rows[0][tick], *rooms[1:]) for rooms in found}
        for door in range(doors):
            found = {after for rooms in found for after in passed(rooms, door, rows[door + 1][tick], tick)}
    return [Counter((*ended, *[(arrived, ticks) for room in inside for arrived in room])) for *inside, ended in found]


def passed(rooms, door, number, tick):
    """Return all that rooms can be after so many people pass a door; behind the last one their stays are kept."""
    found = set()
    for passing in choices(rooms[door], number):
        staying = tuple(sorted((Counter(rooms[door]) - Counter(passing)).elements()))
        ended = door == len(rooms) - 2
        coming = tuple((arrived, tick) for arrived in passing) if ended else passing
        found.add((*rooms[:door], staying, tuple(sorted(rooms[door + 1] + coming)), *rooms[door + 2:]))
    return found


def all_ways(counts):
    """Return all ways: for each person, in the order of arrival, the pair of the arrival and when this person left."""
    came = [tick for tick, number in enumerate(counts.arrivals) for _ in range(number)]
    ticks = len(counts.arrivals)
    found = [(ticks,) * len(came)]
    for tick, leaving in enumerate(counts.departures):
        longer = []
        for lefts in found:
            present = [k for k, arrived in enumerate(came) if arrived <= tick and lefts[k] == ticks]
            for chosen in combinations(present, leaving):
                longer.append(tuple(tick if k in chosen else left for k, left in enumerate(lefts)))
        found = longer
    return [tuple(zip(came, lefts)) for lefts in found]


def large_counts():
    """Return counts with 60 ticks and 999 people, of whom 945 leave."""
    return Counts((39,) + (16,) * 58 + (32,), (0,) + (16,) * 58 + (17,))
