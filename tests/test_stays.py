"""Promises 3, 5 to 8, 10 and 16 to 19: single stays, compared with all histories of small counts."""

import unittest
from itertools import combinations_with_replacement

from staycounts.counts import Counts
from staycounts.errors import Impossible, InvalidStay, InvalidTick, NotCounts
from staycounts.stays import bounds, is_stay, obstacle, possible, possible_arrivals, possible_departures
from tests.support import (NO_COUNTS, NO_INTEGERS, NO_STAYS, ErrorCase, all_histories, example, has_all, slow_obstacle,
                           small_counts, stays_of_size)


class IsStayTest(ErrorCase):
    def test_example(self):
        found = [is_stay(example(), value) for value in ((0, 4), (3, 2), (0, 5), [0, 1])]
        self.assertEqual(found, [True, False, False, False])

    def test_all_pairs(self):
        for ticks in (1, 2, 4):
            stays = [(a, b) for a in range(-1, ticks + 2) for b in range(-1, ticks + 2)
                     if is_stay(Counts.quiet(ticks), (a, b))]
            self.assertEqual(stays, stays_of_size(ticks))

    def test_edges(self):
        self.assertIs(is_stay(Counts.quiet(60), (59, 60)), True)
        self.assertIs(is_stay(Counts.quiet(60), (0, 60)), True)
        self.assertIs(is_stay(Counts.quiet(60), (60, 60)), False)
        self.assertIs(is_stay(Counts.quiet(60), (0, 61)), False)

    def test_nobody_needs_to_have_the_stay(self):
        self.assertIs(is_stay(Counts.quiet(2), (0, 1)), True)

    def test_no_stays(self):
        for wrong in NO_STAYS:
            self.assertIs(is_stay(example(), wrong), False)

    def test_by_name_and_no_counts(self):
        self.assertIs(is_stay(value=(2, 2), counts=example()), True)
        for wrong in NO_COUNTS:
            self.fails(NotCounts, {"value": wrong}, is_stay, wrong, (0, 1))
            self.fails(NotCounts, {"value": wrong}, is_stay, value=None, counts=wrong)


class ObstacleTest(ErrorCase):
    def test_examples(self):
        counts = example()
        self.assertEqual(obstacle(counts, (0, 2), (0, 3)), ("present", 1))
        self.assertIsNone(obstacle(counts, (2, 2)))
        self.assertIs(possible(counts), True)
        self.assertIs(possible(counts, (0, 4)), False)
        self.fails(InvalidStay, {"index": 1}, possible, counts, (0, 1), (1, 9))

    def test_each_word(self):
        counts = Counts((1, 1), (0, 1))
        self.assertEqual(obstacle(counts, (0, 1), (0, 2)), ("arrivals", 0))
        self.assertEqual(obstacle(counts, (0, 0)), ("departures", 0))
        self.assertEqual(obstacle(counts, (0, 1), (1, 1)), ("departures", 1))
        self.assertEqual(obstacle(counts, (0, 2), (1, 2)), ("present", 1))

    def test_order_of_words_at_one_tick(self):
        self.assertEqual(obstacle(Counts.quiet(2), (0, 0), (0, 2)), ("arrivals", 0))
        self.assertEqual(obstacle(Counts((1, 1), (0, 0)), (0, 1), (1, 2), (0, 2)), ("arrivals", 0))
        self.assertEqual(obstacle(Counts((2, 0), (2, 0)), (0, 0), (0, 2)), ("present", 0))
        self.assertEqual(obstacle(Counts((3, 0), (1, 0)), (0, 0), (0, 0)), ("departures", 0))

    def test_the_first_tick_comes_before_the_first_word(self):
        self.assertEqual(obstacle(Counts((1, 0), (1, 0)), (1, 1), (0, 2)), ("present", 0))
        self.assertEqual(obstacle(Counts((1, 0), (0, 1)), (1, 1), (0, 0)), ("departures", 0))

    def test_people_still_present(self):
        counts = Counts((2, 0), (0, 1))
        self.assertIs(possible(counts, (0, 2)), True)
        self.assertIs(possible(counts, (0, 1), (0, 2)), True)
        self.assertEqual(obstacle(counts, (0, 2), (0, 2)), ("present", 1))

    def test_the_largest_counts(self):
        counts = Counts((999,) + (0,) * 59, (0,) * 59 + (998,))
        self.assertIsNone(obstacle(counts, (0, 60), *[(0, 59)] * 998))
        self.assertEqual(obstacle(counts, (0, 60), (0, 60), *[(0, 59)] * 997), ("present", 59))

    def test_no_counts(self):
        for wrong in NO_COUNTS:
            for call in (obstacle, possible):
                self.fails(NotCounts, {"value": wrong}, call, wrong)
                self.fails(NotCounts, {"value": wrong}, call, wrong, None)
                self.fails(NotCounts, {"value": wrong}, call, counts=wrong)

    def test_no_stays(self):
        for wrong in NO_STAYS:
            for call in (obstacle, possible):
                self.fails(InvalidStay, {"index": 0}, call, example(), wrong)
                self.fails(InvalidStay, {"index": 1}, call, example(), (0, 1), wrong, (9, 9))

    def test_stays_are_checked_before_they_are_counted(self):
        self.fails(InvalidStay, {"index": 2}, possible, example(), (1, 1), (1, 1), [0, 1])

    def test_agrees_with_the_words_of_the_document(self):
        for counts in small_counts(3, 2):
            for known in combinations_with_replacement(stays_of_size(3), 2):
                self.assertEqual(obstacle(counts, *known), slow_obstacle(counts, known))

    def test_the_order_of_the_stays_does_not_matter(self):
        for counts in small_counts(2, 2):
            for known in combinations_with_replacement(stays_of_size(2), 3):
                self.assertEqual(obstacle(counts, *known), obstacle(counts, *reversed(known)))

    def test_possible_if_some_history_has_the_stays(self):
        for counts in small_counts(3, 3):
            histories = all_histories(counts)
            for number in (0, 1, 2, 3):
                for known in combinations_with_replacement(stays_of_size(3), number):
                    expected = any(has_all(history, known) for history in histories)
                    self.assertIs(possible(counts, *known), expected)


class PossibleTicksTest(ErrorCase):
    def test_examples(self):
        counts = example()
        self.assertEqual(possible_departures(counts, 0), (1, 2, 3))
        self.assertEqual(possible_departures(counts, 0, (0, 3)), (1,))
        self.assertEqual(possible_arrivals(counts, 3), (0, 2))

    def test_by_name(self):
        self.assertEqual(possible_departures(arrived=0, counts=example()), (1, 2, 3))
        self.assertEqual(possible_arrivals(left=3, counts=example()), (0, 2))

    def test_nobody_arrives_or_leaves(self):
        self.assertEqual(possible_departures(example(), 1), ())
        self.assertEqual(possible_arrivals(example(), 0), ())
        self.assertEqual(possible_arrivals(example(), 4), ())
        self.assertEqual(possible_departures(example(), 2, (2, 2)), ())

    def test_still_present_and_length_0(self):
        counts = Counts((1, 2), (1, 1))
        self.assertEqual(possible_departures(counts, 1), (1, 2))
        self.assertEqual(possible_departures(counts, 0), (0,))
        self.assertEqual(possible_arrivals(counts, 2), (1,))
        self.assertEqual(possible_arrivals(Counts((1,), (0,)), 1), (0,))
        self.assertEqual(possible_arrivals(Counts((1,), (1,)), 0), (0,))

    def test_sixty_ticks(self):
        counts = Counts((2,) + (1,) * 59, (1,) * 60)
        self.assertEqual(possible_departures(counts, 0), tuple(range(61)))
        self.assertEqual(possible_arrivals(counts, 60), tuple(range(60)))

    def test_no_counts(self):
        for wrong in NO_COUNTS:
            for call in (possible_departures, possible_arrivals):
                self.fails(NotCounts, {"value": wrong}, call, wrong, 0)
                self.fails(NotCounts, {"value": wrong}, call, wrong, -1, None)

    def test_wrong_ticks(self):
        for wrong in (-1, 5, 10 ** 50, None, *NO_INTEGERS):
            self.fails(InvalidTick, {"tick": wrong}, possible_departures, example(), wrong)
            self.fails(InvalidTick, {"tick": wrong}, possible_arrivals, example(), wrong)
        self.fails(InvalidTick, {"tick": 4}, possible_departures, example(), 4)
        self.fails(InvalidTick, {"tick": 4}, possible_departures, arrived=4, counts=example())
        self.fails(InvalidTick, {"tick": 5}, possible_arrivals, left=5, counts=example())

    def test_no_stays(self):
        for wrong in NO_STAYS:
            for call in (possible_departures, possible_arrivals):
                self.fails(InvalidStay, {"index": 0}, call, example(), 0, wrong)
                self.fails(InvalidStay, {"index": 1}, call, example(), 0, (0, 3), wrong)

    def test_impossible(self):
        for call in (possible_departures, possible_arrivals):
            self.fails(Impossible, {"word": "present", "tick": 1}, call, example(), 3, (0, 2), (0, 3))
            self.fails(Impossible, {"word": "arrivals", "tick": 1}, call, example(), 0, (1, 1))
            self.fails(Impossible, {"word": "departures", "tick": 0}, call, example(), 3, (0, 0))

    def test_order_of_errors(self):
        for call in (possible_departures, possible_arrivals):
            self.fails(NotCounts, {"value": 7}, call, 7, -1, None)
            self.fails(InvalidTick, {"tick": -1}, call, example(), -1, None)
            self.fails(InvalidTick, {"tick": True}, call, example(), True, (1, 1))
            self.fails(InvalidStay, {"index": 1}, call, example(), 0, (1, 1), None)

    def test_agrees_with_all_histories(self):
        for counts in small_counts(3, 3):
            histories = all_histories(counts)
            for known in [(), *[(stay,) for stay in stays_of_size(3)]]:
                if possible(counts, *known):
                    self.agrees(counts, histories, known)

    def agrees(self, counts, histories, known):
        stays = [stay for stay in stays_of_size(3)
                 if any(has_all(history, (*known, stay)) for history in histories)]
        for tick in range(3):
            lefts = tuple(left for arrived, left in stays if arrived == tick)
            self.assertEqual(possible_departures(counts, tick, *known), lefts)
        for tick in range(4):
            arrivals = tuple(arrived for arrived, left in stays if left == tick)
            self.assertEqual(possible_arrivals(counts, tick, *known), arrivals)


class BoundsTest(ErrorCase):
    def test_example(self):
        found = [bounds(example(), *stay) for stay in ((0, 1), (0, 3), (1, 2))]
        self.assertEqual(found, [(1, 1), (0, 1), (0, 0)])

    def test_by_name(self):
        self.assertEqual(bounds(left=1, arrived=0, counts=example()), (1, 1))
        self.assertEqual(bounds(example(), 0, left=3), (0, 1))

    def test_still_present_and_length_0(self):
        self.assertEqual(bounds(Counts((3,), (1,)), 0, 1), (2, 2))
        self.assertEqual(bounds(Counts((3,), (1,)), 0, 0), (1, 1))
        self.assertEqual(bounds(Counts((3, 2), (0, 1)), 0, 2), (2, 3))
        self.assertEqual(bounds(Counts((3, 2), (0, 1)), 1, 1), (0, 1))

    def test_the_largest_counts(self):
        counts = Counts((999,) + (0,) * 59, (0,) * 59 + (998,))
        self.assertEqual(bounds(counts, 0, 59), (998, 998))
        self.assertEqual(bounds(counts, 0, 60), (1, 1))
        self.assertEqual(bounds(counts, 59, 60), (0, 0))

    def test_no_counts(self):
        for wrong in NO_COUNTS:
            self.fails(NotCounts, {"value": wrong}, bounds, wrong, 0, 0)

    def test_wrong_ticks(self):
        for wrong in (-1, 5, 10 ** 50, None, *NO_INTEGERS):
            self.fails(InvalidTick, {"tick": wrong}, bounds, example(), wrong, 1)
            self.fails(InvalidTick, {"tick": wrong}, bounds, example(), 0, wrong)
        self.fails(InvalidTick, {"tick": 4}, bounds, example(), 4, 4)
        self.fails(InvalidTick, {"tick": 1}, bounds, example(), 2, 1)
        self.fails(InvalidTick, {"tick": 0}, bounds, example(), left=0, arrived=3)

    def test_order_of_errors(self):
        self.fails(NotCounts, {"value": None}, bounds, left=-2, arrived=-1, counts=None)
        self.fails(InvalidTick, {"tick": -1}, bounds, left=-2, arrived=-1, counts=example())

    def test_agrees_with_all_histories(self):
        for counts in [*small_counts(3, 4), *small_counts(4, 3)]:
            histories = all_histories(counts)
            for stay in stays_of_size(len(counts)):
                numbers = [history[stay] for history in histories]
                self.same(bounds(counts, *stay), (min(numbers), max(numbers)))


class UnchangedTest(unittest.TestCase):
    def test_calls_change_nothing(self):
        counts = example()
        for call, values in ((obstacle, ((0, 2), (0, 3))), (possible_departures, (0, (0, 3))),
                             (possible_arrivals, (3, (2, 2))), (bounds, (0, 1)), (is_stay, ((0, 1),))):
            self.assertEqual(call(counts, *values), call(counts, *values))
            self.assertEqual([counts, counts.present], [example(), (2, 1, 1, 0)])
