"""Promises 2, 3, 10 and 28 to 32: lengths of stays, compared with all histories of small counts."""

import random

from staycounts.counts import Counts
from staycounts.errors import InvalidLength, NotCounts
from staycounts.lengths import barrier, breach, can_keep, long_stays, longest, short_barrier, shortest
from staycounts.rules import EldestFirst, FewestLong, MostLong
from tests.support import (NO_COUNTS, NO_INTEGERS, ErrorCase, example, large_counts, random_counts, slow_histories,
                           small_counts)


def some_counts():
    """Return counts that have few histories."""
    generator = random.Random(28)
    some = [random_counts(generator, ticks, 6) for ticks in (5, 6, 7, 8) for _ in range(25)]
    return [*small_counts(1, 3), *small_counts(2, 4), *small_counts(3, 4), *small_counts(4, 3), *some]


def many_counts():
    """Return counts that have too many histories."""
    generator = random.Random(29)
    return [large_counts(), *[random_counts(generator, ticks, people)
                              for ticks, people in ((9, 30), (12, 12), (20, 100), (20, 999), (60, 60), (60, 999))]]


def lengths_of(history):
    """Return the lengths of all stays of a history."""
    return [left - arrived for arrived, left, _ in history]


def keeps(counts, history, least, most):
    """Return whether a history keeps the limits."""
    return all((left == len(counts) or left - arrived >= least) and left - arrived <= most
               for arrived, left, _ in history)


def number_of_long(counts, history, length):
    """Return how many people of a history have an ended stay of at least a length."""
    return sum(number for arrived, left, number in history if left < len(counts) and left - arrived >= length)


def slow_breach(counts, least, most):
    """Return what breach returns, by the words of point 29."""
    came = [tick for tick, number in enumerate(counts.arrivals) for _ in range(number)]
    went = [tick for tick, number in enumerate(counts.departures) for _ in range(number)]
    for k in range(1, len(came) + 1):
        tick = came[k - 1]
        if tick + most < len(counts) and sum(counts.departures[:tick + most + 1]) <= k - 1:
            return ("late", k)
        if k <= len(went):
            before = [tick for tick in came if tick <= went[k - 1] - least]
            if len(before) < k:
                return ("early", k)
    return None


class LimitsTest(ErrorCase):
    def test_examples(self):
        counts = example()
        self.assertEqual([can_keep(counts, most=2), can_keep(counts, most=1), can_keep(counts, least=1, most=2)],
                         [True, False, True])
        self.assertEqual([breach(counts, most=2), breach(counts, most=1), breach(counts, least=2)],
                         [None, ("late", 2), ("early", 1)])

    def test_agrees_with_all_histories(self):
        for counts in some_counts():
            found = slow_histories(counts)
            eldest = EldestFirst()(counts)
            for least in (*range(len(counts) + 2), 60):
                for most in (*range(len(counts) + 2), 60):
                    expected = any(keeps(counts, history, least, most) for history in found)
                    self.same(can_keep(counts, least=least, most=most), expected)
                    self.assertEqual(keeps(counts, eldest, least, most), expected)

    def test_breach_agrees_with_the_words_of_the_document(self):
        for counts in [*some_counts(), *many_counts()]:
            for least in (0, 1, 2, 3, 4, 5, 30, 60):
                for most in (0, 1, 2, 3, 4, 5, 30, 60):
                    expected = slow_breach(counts, least, most)
                    self.assertEqual(breach(counts, least=least, most=most), expected)
                    self.same(can_keep(counts, least=least, most=most), expected is None)

    def test_defaults(self):
        for counts in [*some_counts(), *many_counts()]:
            self.same(can_keep(counts), True)
            self.assertIsNone(breach(counts))
            self.assertEqual(breach(counts, least=2), slow_breach(counts, 2, 60))
            self.assertEqual(breach(counts, most=2), slow_breach(counts, 0, 2))

    def test_late_goes_before_early(self):
        counts = Counts((1, 0, 0), (0, 1, 0))
        self.assertEqual(breach(counts, least=2, most=0), ("late", 1))
        self.assertEqual(breach(counts, least=2), ("early", 1))
        self.assertEqual(breach(Counts((2, 0, 0), (1, 0, 0)), least=1, most=1), ("early", 1))

    def test_still_present(self):
        counts = Counts((0, 1, 0), (0, 0, 0))
        self.assertEqual([breach(counts, most=2), breach(counts, most=1)], [None, ("late", 1)])
        self.assertIsNone(breach(counts, least=60))

    def test_the_extreme_lengths(self):
        counts = Counts((1,) + (0,) * 59, (0,) * 60)
        self.assertEqual([can_keep(counts, most=60), can_keep(counts, most=59)], [True, False])
        counts = Counts((1,), (1,))
        self.assertEqual([can_keep(counts, least=0, most=0), can_keep(counts, least=1)], [True, False])
        self.assertEqual([can_keep(Counts.quiet(60), least=60, most=0), breach(Counts.quiet(1), most=0)], [True, None])
        self.assertEqual(breach(Counts((999,) + (0,) * 59, (998,) + (0,) * 59), most=59), ("late", 999))

    def test_the_limits_are_passed_by_name_only(self):
        for call in (can_keep, breach):
            self.assertEqual(call(most=60, least=0, counts=example()), call(example()))
            with self.assertRaises(TypeError):
                call(example(), 0)

    def test_no_counts(self):
        for call in (can_keep, breach):
            for wrong in NO_COUNTS:
                self.fails(NotCounts, {"value": wrong}, call, wrong)
                self.fails(NotCounts, {"value": wrong}, call, most=-1, least=-1, counts=wrong)

    def test_wrong_lengths(self):
        for call in (can_keep, breach):
            for wrong in (-1, 61, 10 ** 50, None, *NO_INTEGERS):
                self.fails(InvalidLength, {"length": wrong}, call, example(), least=wrong)
                self.fails(InvalidLength, {"length": wrong}, call, example(), most=wrong)
                self.fails(InvalidLength, {"length": wrong}, call, Counts.quiet(1), most=wrong)
                self.fails(InvalidLength, {"length": wrong}, call, example(), most=-7, least=wrong)
                self.fails(InvalidLength, {"length": wrong}, call, example(), most=wrong, least=60)


class LongestTest(ErrorCase):
    def test_examples(self):
        self.assertEqual([longest(example()), shortest(example()), longest(Counts.quiet(2))], [(2, 3), (0, 1), None])

    def test_agrees_with_all_histories(self):
        for counts in some_counts():
            found = [lengths_of(history) for history in slow_histories(counts)]
            if counts.people == 0:
                self.assertIsNone(longest(counts))
                self.assertIsNone(shortest(counts))
            else:
                numbers = [max(lengths) for lengths in found]
                self.same(longest(counts), (min(numbers), max(numbers)))
                numbers = [min(lengths) for lengths in found]
                self.same(shortest(counts), (min(numbers), max(numbers)))

    def test_edges(self):
        for counts, expected in (
            (Counts((1,), (1,)), ((0, 0), (0, 0))),
            (Counts((1,), (0,)), ((1, 1), (1, 1))),
            (Counts((999,), (998,)), ((1, 1), (0, 0))),
            (Counts((1,) + (0,) * 59, (0,) * 60), ((60, 60), (60, 60))),
            (Counts((998,) + (0,) * 58 + (1,), (0,) * 59 + (1,)), ((60, 60), (0, 1))),
        ):
            self.assertEqual((longest(counts), shortest(counts)), expected)
        self.assertEqual([longest(Counts.quiet(60)), shortest(Counts.quiet(1))], [None, None])

    def test_by_name_and_no_counts(self):
        self.assertEqual([longest(counts=example()), shortest(counts=example())], [(2, 3), (0, 1)])
        for call in (longest, shortest):
            for wrong in NO_COUNTS:
                self.fails(NotCounts, {"value": wrong}, call, wrong)
                self.fails(NotCounts, {"value": wrong}, call, counts=wrong)


class LongStaysTest(ErrorCase):
    def test_examples(self):
        found = [long_stays(example(), length) for length in (1, 3, 4)]
        self.assertEqual(found, [(2, 3), (0, 1), (0, 0)])

    def test_agrees_with_all_histories(self):
        for counts in some_counts():
            found = slow_histories(counts)
            for length in (*range(1, len(counts) + 2), 60):
                numbers = [number_of_long(counts, history, length) for history in found]
                self.same(long_stays(counts, length), (min(numbers), max(numbers)))

    def test_the_rules_have_these_numbers(self):
        for counts in [*some_counts(), *many_counts()]:
            for length in (1, 2, 5, 60):
                fewest = number_of_long(counts, FewestLong(length)(counts), length)
                most = number_of_long(counts, MostLong(length)(counts), length)
                self.assertEqual(long_stays(counts, length), (fewest, most))

    def test_edges(self):
        counts = Counts((999,) + (0,) * 59, (0,) * 59 + (998,))
        self.assertEqual([long_stays(counts, 59), long_stays(counts, 60)], [(998, 998), (0, 0)])
        self.assertEqual(long_stays(Counts((2, 0), (0, 1)), 1), (1, 1))
        self.assertEqual(long_stays(Counts((1,), (1,)), 1), (0, 0))
        self.assertEqual(long_stays(Counts.quiet(60), 60), (0, 0))

    def test_by_name(self):
        self.assertEqual(long_stays(length=3, counts=example()), (0, 1))


class BarrierTest(ErrorCase):
    def test_small_counts(self):
        for counts in some_counts():
            for length in (*range(1, len(counts) + 2), 60):
                self.are_barriers(counts, length)

    def test_many_counts(self):
        for counts in many_counts():
            for length in (1, 2, 3, 7, 30, 59, 60):
                self.are_barriers(counts, length)

    def are_barriers(self, counts, length):
        ticks = range(len(counts))
        ended = [(arrived, left) for arrived in ticks for left in ticks[arrived:]]
        least, greatest = long_stays(counts, length)
        found = barrier(counts, length)
        self.meets(counts, found, [(a, b) for a, b in ended if b - a >= length])
        self.assertEqual(self.sum_at(counts, found), greatest)
        found = short_barrier(counts, length)
        self.meets(counts, found, [(a, b) for a, b in ended if b - a < length])
        self.assertEqual(self.sum_at(counts, found), sum(counts.departures) - least)

    def meets(self, counts, triple, stays):
        self.assertEqual([type(triple), len(triple)], [tuple, 3])
        for ticks in triple:
            self.assertIs(type(ticks), tuple)
            self.assertEqual(list(ticks), sorted(set(ticks)))
            self.assertTrue(all(type(tick) is int and 0 <= tick < len(counts) for tick in ticks))
        arrivals, departures, covered = (set(ticks) for ticks in triple)
        for arrived, left in stays:
            self.assertTrue(arrived in arrivals or left in departures or covered & set(range(arrived, left)))

    def sum_at(self, counts, triple):
        numbers = (counts.arrivals, counts.departures, counts.present)
        return sum(row[tick] for row, ticks in zip(numbers, triple) for tick in ticks)

    def test_people_present_are_needed(self):
        # The only one who could stay for two ticks leaves at tick 1 in every history.
        counts = Counts((1, 0, 1, 0), (0, 1, 0, 1))
        self.assertEqual(long_stays(counts, 2), (0, 0))
        self.assertEqual(barrier(counts, 2), ((), (), (1,)))

    def test_edges(self):
        for length in (1, 60):
            self.are_barriers(Counts.quiet(1), length)
            self.are_barriers(Counts.quiet(60), length)
            self.are_barriers(Counts((999,), (999,)), length)
            self.are_barriers(Counts((999,) + (0,) * 59, (0,) * 59 + (998,)), length)

    def test_by_name(self):
        self.assertEqual(barrier(length=1, counts=example()), barrier(example(), 1))
        self.assertEqual(short_barrier(length=1, counts=example()), short_barrier(example(), 1))


class LengthErrorsTest(ErrorCase):
    CALLS = (long_stays, barrier, short_barrier)

    def test_example(self):
        self.fails(InvalidLength, {"length": 0}, barrier, example(), 0)

    def test_no_counts(self):
        for call in self.CALLS:
            for wrong in NO_COUNTS:
                self.fails(NotCounts, {"value": wrong}, call, wrong, 1)
                self.fails(NotCounts, {"value": wrong}, call, length=0, counts=wrong)

    def test_wrong_lengths(self):
        for call in self.CALLS:
            for wrong in (0, -1, 61, 10 ** 50, None, *NO_INTEGERS):
                self.fails(InvalidLength, {"length": wrong}, call, example(), wrong)
                self.fails(InvalidLength, {"length": wrong}, call, length=wrong, counts=Counts.quiet(1))

    def test_calls_change_nothing(self):
        counts = example()
        for call in self.CALLS:
            self.assertEqual(call(counts, 2), call(counts, 2))
        for call in (can_keep, breach, longest, shortest):
            self.assertEqual(call(counts), call(counts))
        self.assertEqual([counts, counts.present], [example(), (2, 1, 1, 0)])
