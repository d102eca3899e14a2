"""Promises 2, 3, 8, 10 and 25 to 27: ranges, compared with all histories of small counts."""

import random

from staycounts.counts import Counts
from staycounts.errors import InvalidNumber, InvalidTick, NotCounts
from staycounts.histories import is_history
from staycounts.ranges import cut, history_within, throughout, within
from staycounts.rules import EldestFirst, YoungestFirst
from tests.support import (NO_COUNTS, NO_INTEGERS, ErrorCase, example, large_counts, random_counts, slow_histories,
                           small_counts)


def ranges_of(counts):
    """Return all ranges of counts."""
    return [(first, last) for first in range(len(counts)) for last in range(first, len(counts))]


def number_within(history, first, last):
    """Return how many people of a history came and left within a range."""
    return sum(number for arrived, left, number in history if first <= arrived and left <= last)


def number_throughout(history, first, last):
    """Return how many people of a history have a stay that covers all ticks of a range."""
    ticks = range(first, last + 1)
    return sum(number for arrived, left, number in history if all(arrived <= tick < left for tick in ticks))


def slow_sums(counts, first, last):
    """Return the sums of point 26 for all places of a cut, as pairs (sum, place)."""
    return [(sum(counts.arrivals[tick] for tick in range(first, place))
             + sum(counts.departures[tick] for tick in range(place, last + 1)), place)
            for place in range(first, last + 2)]


def small_and_random_counts():
    """Return counts that have few histories."""
    generator = random.Random(25)
    some = [random_counts(generator, ticks, 6) for ticks in (5, 6, 7) for _ in range(25)]
    return [*small_counts(1, 3), *small_counts(2, 4), *small_counts(3, 4), *small_counts(4, 3), *some]


class RangesTest(ErrorCase):
    def test_agrees_with_all_histories(self):
        for counts in small_and_random_counts():
            found = slow_histories(counts)
            for first, last in ranges_of(counts):
                numbers = {number_within(history, first, last) for history in found}
                self.same(within(counts, first, last), (min(numbers), max(numbers)))
                self.assertEqual(numbers, set(range(min(numbers), max(numbers) + 1)))
                numbers = [number_throughout(history, first, last) for history in found]
                self.same(throughout(counts, first, last), (min(numbers), max(numbers)))

    def test_one_rule_has_all_least_numbers_and_one_all_greatest(self):
        for counts in [*small_and_random_counts(), large_counts(), random_counts(random.Random(2), 60, 999)]:
            eldest, youngest = EldestFirst()(counts), YoungestFirst()(counts)
            for first, last in ranges_of(counts):
                found = (number_within(eldest, first, last), number_within(youngest, first, last))
                self.assertEqual(within(counts, first, last), found)

    def test_cut_has_the_least_sum_and_is_the_first(self):
        for counts in [*small_and_random_counts(), large_counts()]:
            for first, last in ranges_of(counts):
                total, place = min(slow_sums(counts, first, last))
                self.same(cut(counts, first, last), place)
                self.assertEqual(within(counts, first, last)[1], total)

    def test_histories_with_each_number(self):
        for counts in small_and_random_counts():
            for first, last in ranges_of(counts):
                least, greatest = within(counts, first, last)
                for number in range(least, greatest + 1):
                    self.has_number(counts, first, last, number)
                for wrong in (least - 1, greatest + 1, -1, 10 ** 50):
                    self.fails(InvalidNumber, {"number": wrong}, history_within, counts, first, last, wrong)

    def test_histories_of_the_largest_counts(self):
        counts = random_counts(random.Random(27), 60, 999)
        for first, last in ((0, 0), (0, 59), (59, 59), (7, 50), (20, 39)):
            least, greatest = within(counts, first, last)
            for number in {least, (least + greatest) // 2, greatest}:
                self.has_number(counts, first, last, number)

    def has_number(self, counts, first, last, number):
        history = history_within(counts, first, last, number)
        self.assertTrue(is_history(counts, history))
        self.assertEqual(number_within(history, first, last), number)


class ExamplesTest(ErrorCase):
    def test_within_and_throughout(self):
        counts = example()
        found = [within(counts, 2, 3), within(counts, 2, 2), throughout(counts, 0, 2)]
        self.assertEqual(found, [(1, 1), (0, 1), (0, 1)])
        self.fails(InvalidTick, {"tick": 1}, within, counts, 2, 1)

    def test_cut(self):
        self.assertEqual([cut(example(), 2, 2), cut(example(), 2, 3), cut(example(), 0, 3)], [2, 4, 0])

    def test_history_within(self):
        self.assertEqual(history_within(example(), 2, 2, 1), ((0, 1, 1), (0, 3, 1), (2, 2, 1)))
        self.fails(InvalidNumber, {"number": 2}, history_within, example(), 2, 3, 2)

    def test_by_name(self):
        counts = example()
        self.assertEqual(within(last=3, first=2, counts=counts), (1, 1))
        self.assertEqual(throughout(counts, last=2, first=0), (0, 1))
        self.assertEqual(cut(last=3, counts=counts, first=2), 4)
        self.assertEqual(history_within(counts, number=1, first=2, last=2), ((0, 1, 1), (0, 3, 1), (2, 2, 1)))


class EdgesTest(ErrorCase):
    def test_one_tick(self):
        counts = Counts((3,), (2,))
        self.assertEqual([within(counts, 0, 0), throughout(counts, 0, 0), cut(counts, 0, 0)], [(2, 2), (1, 1), 0])
        self.assertEqual(history_within(counts, 0, 0, 2), ((0, 0, 2), (0, 1, 1)))

    def test_a_cut_behind_the_last_tick(self):
        self.assertEqual(cut(Counts((1, 0, 1), (0, 1, 1)), 1, 1), 2)
        self.assertEqual(cut(Counts((1, 0, 0), (0, 0, 1)), 2, 2), 3)

    def test_the_first_of_several_cuts(self):
        self.assertEqual(cut(Counts.quiet(60), 0, 59), 0)
        self.assertEqual(cut(Counts.quiet(60), 59, 59), 59)
        self.assertEqual(cut(Counts((1, 0, 1, 0), (1, 0, 1, 0)), 1, 3), 1)

    def test_first_equal_to_last(self):
        counts = Counts((2, 1, 1), (0, 1, 2))
        self.assertEqual([within(counts, 1, 1), throughout(counts, 1, 1)], [(0, 1), (2, 2)])
        self.assertEqual([within(counts, 2, 2), throughout(counts, 2, 2)], [(0, 1), (1, 1)])

    def test_people_still_present_are_throughout_but_not_within(self):
        counts = Counts((5, 0), (0, 1))
        self.assertEqual([within(counts, 0, 1), throughout(counts, 0, 1)], [(1, 1), (4, 4)])

    def test_a_stay_of_length_0_is_within_but_not_throughout(self):
        counts = Counts((5, 0), (5, 0))
        self.assertEqual([within(counts, 0, 0), throughout(counts, 0, 0)], [(5, 5), (0, 0)])

    def test_nobody_arrives(self):
        counts = Counts.quiet(60)
        self.assertEqual([within(counts, 0, 59), throughout(counts, 0, 59)], [(0, 0), (0, 0)])
        self.assertEqual(history_within(counts, 0, 59, 0), ())

    def test_sixty_ticks_and_999_people(self):
        counts = Counts((999,) + (0,) * 59, (0,) * 59 + (998,))
        self.assertEqual([within(counts, 0, 59), within(counts, 0, 58), within(counts, 1, 59)],
                         [(998, 998), (0, 0), (0, 0)])
        self.assertEqual([throughout(counts, 0, 59), throughout(counts, 0, 58)], [(1, 1), (999, 999)])


class ErrorsTest(ErrorCase):
    CALLS = (within, throughout, cut, lambda counts, first, last: history_within(counts, first, last, None))

    def test_no_counts(self):
        for wrong in NO_COUNTS:
            for call in self.CALLS:
                self.fails(NotCounts, {"value": wrong}, call, wrong, 0, 0)
                self.fails(NotCounts, {"value": wrong}, call, last=-2, first=-1, counts=wrong)

    def test_wrong_ticks(self):
        for call in self.CALLS:
            for wrong in (-1, 4, 5, 10 ** 50, None, *NO_INTEGERS):
                self.fails(InvalidTick, {"tick": wrong}, call, example(), wrong, 3)
                self.fails(InvalidTick, {"tick": wrong}, call, example(), 0, wrong)
                self.fails(InvalidTick, {"tick": wrong}, call, last=wrong, first=0, counts=example())
            self.fails(InvalidTick, {"tick": 0}, call, example(), 1, 0)
            self.fails(InvalidTick, {"tick": 60}, call, Counts.quiet(60), 59, 60)

    def test_the_first_tick_is_checked_first(self):
        for call in self.CALLS:
            self.fails(InvalidTick, {"tick": -1}, call, example(), -1, -2)
            self.fails(InvalidTick, {"tick": "a"}, call, last="b", first="a", counts=example())

    def test_wrong_numbers(self):
        for wrong in (-1, 3, 10 ** 50, None, *NO_INTEGERS):
            self.fails(InvalidNumber, {"number": wrong}, history_within, example(), 2, 2, wrong)
            named = {"number": wrong, "last": 2, "first": 2, "counts": example()}
            self.fails(InvalidNumber, {"number": wrong}, history_within, **named)
        self.fails(InvalidNumber, {"number": 0}, history_within, example(), 2, 3, 0)

    def test_order_of_errors(self):
        self.fails(NotCounts, {"value": None}, history_within, None, -1, -1, -1)
        self.fails(InvalidTick, {"tick": -1}, history_within, example(), -1, -1, -1)
        self.fails(InvalidTick, {"tick": 9}, history_within, example(), 0, 9, -1)

    def test_calls_change_nothing(self):
        counts = example()
        for call in (within, throughout, cut):
            self.assertEqual(call(counts, 0, 2), call(counts, 0, 2))
        self.assertEqual(history_within(counts, 0, 3, 3), history_within(counts, 0, 3, 3))
        self.assertEqual([counts, counts.present], [example(), (2, 1, 1, 0)])
