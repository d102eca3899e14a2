"""Promises 2, 3, 6, 9, 10, 23, 36 and 37: ways and chances, compared with all ways of small counts."""

import random
from collections import Counter
from fractions import Fraction
from math import factorial, prod

from staycounts.chances import chance, mean_within, stay_chance, ways
from staycounts.counts import Counts
from staycounts.errors import CountError, InvalidHistory, InvalidTick, NotCounts
from staycounts.histories import histories, is_history
from staycounts.rules import EldestFirst, FewestLong, MostLong, Rule, YoungestFirst
from tests.support import (NO_COUNTS, NO_INTEGERS, ErrorCase, all_ways, as_history, example, large_counts,
                           random_counts, slow_histories, small_counts)

HISTORY = ((0, 1, 1), (0, 3, 1), (2, 2, 1))
NO_HISTORIES = (1, True, "", (), [], {}, object(), example(), list(HISTORY), HISTORY[:2], HISTORY[::-1], (HISTORY,),
                ((0, 1, True), *HISTORY[1:]), ([0, 1, 1], *HISTORY[1:]), (*HISTORY, (3, 3, 0)), ((0, 1, 2), (2, 2, 1)),
                ((0, 1, 1), (0, 3, 1), (2, 3, 1)))


def some_counts():
    """Return counts that have few ways."""
    generator = random.Random(36)
    some = [random_counts(generator, ticks, 6) for ticks in (4, 5, 6) for _ in range(15)]
    return [*small_counts(1, 4), *small_counts(2, 4), *small_counts(3, 4), *some]


def middle_counts():
    """Return counts with too many ways to go through, but not too many histories."""
    generator = random.Random(37)
    return [random_counts(generator, ticks, people) for ticks, people in ((3, 20), (4, 12), (5, 10)) for _ in range(5)]


def fraction(number):
    """Return a Fraction as the pair that the document calls a fraction."""
    return (number.numerator, number.denominator)


class ExamplesTest(ErrorCase):
    def test_ways_and_chance(self):
        counts = example()
        self.assertEqual([ways(counts), ways(counts, HISTORY), chance(counts, HISTORY)], [4, 2, (1, 2)])

    def test_stay_chance_and_mean_within(self):
        found = [stay_chance(example(), 0, 3), stay_chance(example(), 2, 4), mean_within(example(), 2, 2)]
        self.assertEqual(found, [(1, 4), (0, 1), (1, 2)])

    def test_by_name(self):
        self.assertEqual(ways(counts=example()), 4)
        self.assertEqual([ways(history=HISTORY, counts=example()), ways(example(), history=None)], [2, 4])
        self.assertEqual(chance(history=HISTORY, counts=example()), (1, 2))
        self.assertEqual(stay_chance(left=3, counts=example(), arrived=0), (1, 4))
        self.assertEqual(mean_within(last=2, first=2, counts=example()), (1, 2))


class AllWaysTest(ErrorCase):
    def test_ways_and_chances_of_histories(self):
        for counts in some_counts():
            found = Counter(as_history(Counter(way)) for way in all_ways(counts))
            self.same(ways(counts), found.total())
            self.assertEqual(sorted(found), slow_histories(counts))
            for history, number in found.items():
                self.same(ways(counts, history), number)
                self.same(chance(counts, history), fraction(Fraction(number, found.total())))

    def test_chances_of_stays(self):
        for counts in some_counts():
            found = all_ways(counts)
            for person, (arrived, _) in enumerate(found[0]):
                lefts = Counter(way[person][1] for way in found)
                for left in range(arrived, len(counts) + 1):
                    expected = Fraction(lefts[left], len(found))
                    self.same(stay_chance(counts, arrived, left), fraction(expected))

    def test_means(self):
        for counts in some_counts():
            found = all_ways(counts)
            for first in range(len(counts)):
                for last in range(first, len(counts)):
                    numbers = [sum(first <= arrived and left <= last for arrived, left in way) for way in found]
                    self.same(mean_within(counts, first, last), fraction(Fraction(sum(numbers), len(found))))


class TogetherTest(ErrorCase):
    def test_the_ways_of_all_histories_are_all_ways(self):
        for counts in [*some_counts(), *middle_counts()]:
            found = list(histories(counts))
            self.assertEqual(sum(ways(counts, history) for history in found), ways(counts))
            self.assertEqual(sum(Fraction(*chance(counts, history)) for history in found), 1)

    def test_each_history_of_a_rule_has_a_way(self):
        rules = (Rule(), EldestFirst(), YoungestFirst(), MostLong(1), MostLong(3), FewestLong(2), FewestLong(60))
        for counts in [*some_counts(), *middle_counts(), large_counts()]:
            for rule in rules:
                history = rule(counts)
                self.assertTrue(is_history(counts, history))
                self.assertGreaterEqual(ways(counts, history), 1)
                self.assertGreater(chance(counts, history)[0], 0)

    def test_means_agree_with_histories(self):
        for counts in middle_counts():
            chances = [(history, Fraction(*chance(counts, history))) for history in histories(counts)]
            for first, last in ((0, 0), (0, 2), (1, 2), (2, 2)):
                mean = sum(part * number for history, part in chances for arrived, left, number in history
                           if first <= arrived and left <= last)
                self.assertEqual(mean_within(counts, first, last), fraction(Fraction(mean)))

    def test_chances_of_one_person_add_up(self):
        for counts in [*some_counts(), *middle_counts(), large_counts(), random_counts(random.Random(9), 60, 999)]:
            for arrived in {0, len(counts) // 2, len(counts) - 1}:
                if counts.arrivals[arrived] > 0:
                    chances = [stay_chance(counts, arrived, left) for left in range(arrived, len(counts) + 1)]
                    self.assertEqual(sum(Fraction(*part) for part in chances), 1)
                    self.assertTrue(all(part == fraction(Fraction(*part)) for part in chances))


class LargeTest(ErrorCase):
    def test_ways_of_the_largest_counts(self):
        counts = large_counts()
        number = prod(factorial(staying + leaving) // factorial(leaving) // factorial(staying)
                      for staying, leaving in zip(counts.present, counts.departures))
        self.assertEqual(ways(counts), number)
        for rule in (EldestFirst(), YoungestFirst(), MostLong(30)):
            history = rule(counts)
            same = prod(factorial(people) for people in counts.arrivals)
            for _, _, people in history:
                same //= factorial(people)
            self.assertEqual(ways(counts, history), same)
            self.assertEqual(chance(counts, history), fraction(Fraction(same, number)))

    def test_means_of_the_largest_counts(self):
        counts = large_counts()
        self.assertEqual(mean_within(counts, 0, 59), (sum(counts.departures), 1))
        for first, last in ((0, 0), (5, 9), (30, 59), (59, 59)):
            mean = sum(counts.arrivals[arrived] * Fraction(*stay_chance(counts, arrived, left))
                       for arrived in range(first, last + 1) for left in range(arrived, last + 1))
            self.assertEqual(mean_within(counts, first, last), fraction(mean))

    def test_one_of_999_leaves_at_the_last_tick(self):
        counts = Counts((999,) + (0,) * 59, (0,) * 59 + (998,))
        self.assertEqual([ways(counts), ways(counts, ((0, 59, 998), (0, 60, 1)))], [999, 999])
        self.assertEqual([stay_chance(counts, 0, 59), stay_chance(counts, 0, 60)], [(998, 999), (1, 999)])
        self.assertEqual([stay_chance(counts, 0, 0), mean_within(counts, 0, 59)], [(0, 1), (998, 1)])


class EdgesTest(ErrorCase):
    def test_nobody_arrives(self):
        for counts in (Counts.quiet(1), Counts.quiet(60)):
            last = len(counts) - 1
            self.assertEqual([ways(counts), ways(counts, ()), chance(counts, ())], [1, 1, (1, 1)])
            self.assertEqual([mean_within(counts, 0, 0), mean_within(counts, 0, last)], [(0, 1), (0, 1)])
            self.fails(InvalidTick, {"tick": last}, stay_chance, counts, last, last)

    def test_one_tick(self):
        counts = Counts((3,), (2,))
        self.assertEqual([ways(counts), chance(counts, ((0, 0, 2), (0, 1, 1)))], [3, (1, 1)])
        self.assertEqual([stay_chance(counts, 0, 0), stay_chance(counts, 0, 1)], [(2, 3), (1, 3)])
        self.assertEqual(mean_within(counts, 0, 0), (2, 1))

    def test_everybody_has_left_before(self):
        counts = Counts((2, 0, 1, 0), (2, 0, 1, 0))
        self.assertEqual([stay_chance(counts, 0, left) for left in range(5)], [(1, 1)] + [(0, 1)] * 4)
        self.assertEqual([stay_chance(counts, 2, left) for left in (2, 3, 4)], [(1, 1), (0, 1), (0, 1)])
        self.assertEqual([mean_within(counts, 0, 3), mean_within(counts, 1, 1)], [(3, 1), (0, 1)])

    def test_people_are_told_apart(self):
        counts = Counts((1, 1, 0), (0, 0, 1))
        self.assertEqual([ways(counts), stay_chance(counts, 0, 2), stay_chance(counts, 1, 2)], [2, (1, 2), (1, 2)])
        counts = Counts((2, 1, 0), (0, 0, 1))
        self.assertEqual(chance(counts, ((0, 2, 1), (0, 3, 1), (1, 3, 1))), (2, 3))

    def test_ticks_at_which_nobody_arrives_add_nothing(self):
        self.assertEqual(mean_within(Counts((1, 0, 0), (0, 1, 0)), 1, 2), (0, 1))


class ErrorsTest(ErrorCase):
    def test_no_counts(self):
        for wrong in NO_COUNTS:
            self.fails(NotCounts, {"value": wrong}, ways, wrong)
            self.fails(NotCounts, {"value": wrong}, ways, wrong, 7)
            self.fails(NotCounts, {"value": wrong}, chance, history=None, counts=wrong)
            self.fails(NotCounts, {"value": wrong}, stay_chance, wrong, -1, -1)
            self.fails(NotCounts, {"value": wrong}, mean_within, last=-1, first=-1, counts=wrong)

    def test_no_histories(self):
        for wrong in NO_HISTORIES:
            self.fails(InvalidHistory, {"history": wrong}, ways, example(), wrong)
            self.fails(InvalidHistory, {"history": wrong}, ways, history=wrong, counts=example())
            self.fails(InvalidHistory, {"history": wrong}, chance, example(), wrong)
            self.fails(InvalidHistory, {"history": wrong}, chance, history=wrong, counts=example())

    def test_none_is_allowed_in_ways_alone(self):
        self.assertEqual(ways(example(), None), 4)
        self.fails(InvalidHistory, {"history": None}, chance, example(), None)
        with self.assertRaises(CountError):
            chance(Counts.quiet(1), None)

    def test_the_history_of_other_counts(self):
        for one in small_counts(2, 2):
            for history in slow_histories(one):
                other = one.extended(0, 0).changed(0, arrivals=one.arrivals[0] + 1)
                self.fails(InvalidHistory, {"history": history}, ways, other, history)
                self.fails(InvalidHistory, {"history": history}, chance, other, history)

    def test_wrong_ticks_of_a_stay(self):
        for wrong in (-1, 5, 10 ** 50, None, *NO_INTEGERS):
            self.fails(InvalidTick, {"tick": wrong}, stay_chance, example(), wrong, 3)
            self.fails(InvalidTick, {"tick": wrong}, stay_chance, example(), 0, wrong)
            self.fails(InvalidTick, {"tick": wrong}, stay_chance, left=wrong, counts=example(), arrived=2)
        self.fails(InvalidTick, {"tick": 4}, stay_chance, example(), 4, 4)
        self.fails(InvalidTick, {"tick": 1}, stay_chance, example(), 2, 1)

    def test_a_tick_at_which_nobody_arrives(self):
        for tick in (1, 3):
            self.fails(InvalidTick, {"tick": tick}, stay_chance, example(), tick, tick)
            self.fails(InvalidTick, {"tick": tick}, stay_chance, example(), tick, 4)
        # Somebody arrives at the last tick, but -1 does not mean this one.
        self.fails(InvalidTick, {"tick": -1}, stay_chance, Counts((1, 1), (0, 0)), -1, 2)

    def test_the_first_tick_is_checked_first(self):
        self.fails(InvalidTick, {"tick": -1}, stay_chance, example(), -1, -2)
        self.fails(InvalidTick, {"tick": 1}, stay_chance, example(), 1, 0)
        self.fails(InvalidTick, {"tick": "a"}, stay_chance, left="b", arrived="a", counts=example())
        self.fails(InvalidTick, {"tick": -1}, mean_within, example(), -1, -2)
        self.fails(InvalidTick, {"tick": "a"}, mean_within, last="b", first="a", counts=example())

    def test_wrong_ranges(self):
        for wrong in (-1, 4, 5, 10 ** 50, None, *NO_INTEGERS):
            self.fails(InvalidTick, {"tick": wrong}, mean_within, example(), wrong, 3)
            self.fails(InvalidTick, {"tick": wrong}, mean_within, example(), 0, wrong)
        self.fails(InvalidTick, {"tick": 0}, mean_within, example(), 1, 0)

    def test_calls_change_nothing(self):
        counts = example()
        for call in (lambda: ways(counts), lambda: ways(counts, HISTORY), lambda: chance(counts, HISTORY),
                     lambda: stay_chance(counts, 0, 2), lambda: mean_within(counts, 0, 2)):
            self.assertEqual(call(), call())
            self.assertEqual([counts, counts.present], [example(), (2, 1, 1, 0)])
