"""Promises 2, 3, 6, 7, 10, 15, 17, 19 and 20 to 22: histories, compared with all histories of small counts."""

import random
import types
from collections import Counter
from itertools import combinations, combinations_with_replacement, islice, product

from staycounts.counts import Counts
from staycounts.errors import Impossible, InvalidHistory, InvalidStay, NotCounts
from staycounts.histories import has_stays, histories, history_with, is_history
from staycounts.stays import bounds, obstacle, possible
from tests.support import (NO_COUNTS, NO_STAYS, ErrorCase, example, large_counts, random_counts, slow_histories,
                           small_counts, stays_of_size)

HISTORY = ((0, 1, 1), (0, 3, 1), (2, 2, 1))
NO_HISTORIES = (
    None, 1, True, "", b"", (), [], {}, object(), example(), Counter(), 10 ** 99,
    list(HISTORY), (list(HISTORY[0]), *HISTORY[1:]), (HISTORY,), ([0, 1, 1], [0, 3, 1], [2, 2, 1]),
    HISTORY[:2], HISTORY[1:], HISTORY[::-1], (HISTORY[1], HISTORY[0], HISTORY[2]), (*HISTORY, HISTORY[2]),
    ((0, 1), (0, 3), (2, 2)), ((0, 1, 1, 1), *HISTORY[1:]), (((0, 1), 1), *HISTORY[1:]), ((), *HISTORY),
    (*HISTORY, None), (*HISTORY, ()), (*HISTORY, (3, 3, 0)), (*HISTORY, (3, 3, 1)), (*HISTORY, (3, 4, 1)),
    (*HISTORY, (4, 4, 1)), (*HISTORY, (4, 4, 0)), ((-1, 0, 1), *HISTORY), (*HISTORY, (2, 1, 1)),
    ((0, 1, True), *HISTORY[1:]), ((False, 1, 1), *HISTORY[1:]), ((0, True, 1), *HISTORY[1:]),
    ((0, 1, 2), (0, 3, 1), (2, 2, 1)), ((0, 1, 0), (0, 3, 1), (2, 2, 1)), ((0, 1, -1), (0, 3, 1), (2, 2, 1)),
    ((0, 1, 1), (0, 2, 1), (2, 2, 1)), ((0, 1, 1), (0, 3, 1), (2, 4, 1)), ((0, 1, 2), (2, 2, 1), (2, 3, 1)),
    ((0, 0, 0), *HISTORY), ((0, 1, "1"), *HISTORY[1:]), ((0, 1, None), *HISTORY[1:]), ((0, None, 1), *HISTORY[1:]),
    ((0, 1, 10 ** 99), *HISTORY[1:]), ((0, 5, 1), *HISTORY[1:]), ("011", *HISTORY[1:]), ((0, 1, 1),) + ((2, 2, 1),),
    ((0, 1, 1), (0, 3, (1,)), (2, 2, 1)), ((0, 1, 1), (0, 3, 1), (2, 2, [1])), ((0, 1, 1), (0, 3, 1), [2, 2, 1]),
)


def numbers_with(triples, stay):
    """Return how many people of a history have a stay."""
    return sum(number for *pair, number in triples if tuple(pair) == stay)


class IsHistoryTest(ErrorCase):
    def test_example(self):
        self.same(is_history(example(), HISTORY), True)
        self.same(is_history(example(), HISTORY[:2]), False)

    def test_all_tuples_of_triples(self):
        for counts in small_counts(2, 2):
            expected = set(slow_histories(counts))
            triples = [(*stay, number) for stay in stays_of_size(2) for number in (0, 1, 2)]
            values = {value for size in range(4) for value in product(triples, repeat=size)}
            self.assertLessEqual(expected, values)
            self.assertEqual({value for value in values if is_history(counts, value)}, expected)

    def test_all_histories_of_small_counts(self):
        for counts in small_counts(3, 3):
            for history in slow_histories(counts):
                self.same(is_history(counts, history), True)

    def test_the_histories_of_other_counts(self):
        for one, other in product(small_counts(2, 2), repeat=2):
            for history in slow_histories(one):
                self.same(is_history(other, history), one == other)

    def test_no_histories(self):
        for wrong in NO_HISTORIES:
            self.same(is_history(example(), wrong), False)

    def test_the_same_stay_is_one_triple(self):
        counts = Counts((2,), (2,))
        self.same(is_history(counts, ((0, 0, 2),)), True)
        self.same(is_history(counts, ((0, 0, 1), (0, 0, 1))), False)
        self.same(is_history(Counts((3,), (3,)), ((0, 0, 1), (0, 0, 2))), False)

    def test_nobody_arrives(self):
        self.same(is_history(Counts.quiet(1), ()), True)
        self.same(is_history(Counts.quiet(60), ()), True)
        self.same(is_history(Counts.quiet(60), []), False)
        self.same(is_history(Counts.quiet(1), ((0, 0, 0),)), False)

    def test_still_present_and_length_0(self):
        self.same(is_history(Counts((2,), (1,)), ((0, 0, 1), (0, 1, 1))), True)
        self.same(is_history(Counts((2,), (1,)), ((0, 0, 2),)), False)
        self.same(is_history(Counts((2,), (1,)), ((0, 1, 2),)), False)
        self.same(is_history(Counts((2,), (1,)), ((0, 0, 1),)), False)

    def test_the_largest_counts(self):
        counts = Counts((999,) + (0,) * 59, (0,) * 59 + (998,))
        self.same(is_history(counts, ((0, 59, 998), (0, 60, 1))), True)
        self.same(is_history(counts, ((0, 59, 998), (0, 61, 1))), False)
        self.same(is_history(counts, ((0, 59, 997), (0, 60, 2))), False)

    def test_by_name_and_no_counts(self):
        self.same(is_history(value=HISTORY, counts=example()), True)
        for wrong in NO_COUNTS:
            self.fails(NotCounts, {"value": wrong}, is_history, wrong, HISTORY)
            self.fails(NotCounts, {"value": wrong}, is_history, value=None, counts=wrong)


class HasStaysTest(ErrorCase):
    def test_example(self):
        self.same(has_stays(example(), HISTORY, (0, 3), (0, 3)), False)
        self.same(has_stays(example(), HISTORY, (0, 3)), True)
        self.same(has_stays(example(), HISTORY), True)

    def test_all_known_stays_of_small_counts(self):
        for counts in small_counts(2, 3):
            for history in slow_histories(counts):
                people = Counter({(arrived, left): number for arrived, left, number in history})
                for size in range(4):
                    for known in product(stays_of_size(2), repeat=size):
                        expected = not Counter(known) - people
                        self.same(has_stays(counts, history, *known), expected)

    def test_more_known_stays_than_people(self):
        self.same(has_stays(Counts((2,), (2,)), ((0, 0, 2),), *[(0, 0)] * 2), True)
        self.same(has_stays(Counts((2,), (2,)), ((0, 0, 2),), *[(0, 0)] * 3), False)
        self.same(has_stays(Counts.quiet(1), (), (0, 0)), False)
        self.same(has_stays(Counts.quiet(1), ()), True)

    def test_by_name(self):
        self.same(has_stays(history=HISTORY, counts=example()), True)

    def test_no_counts(self):
        for wrong in NO_COUNTS:
            self.fails(NotCounts, {"value": wrong}, has_stays, wrong, HISTORY, (0, 3))
            self.fails(NotCounts, {"value": wrong}, has_stays, history=None, counts=wrong)

    def test_no_histories(self):
        for wrong in NO_HISTORIES:
            self.fails(InvalidHistory, {"history": wrong}, has_stays, example(), wrong)
            self.fails(InvalidHistory, {"history": wrong}, has_stays, example(), wrong, (0, 3))
            self.fails(InvalidHistory, {"history": wrong}, has_stays, history=wrong, counts=example())

    def test_no_stays(self):
        for wrong in NO_STAYS:
            self.fails(InvalidStay, {"index": 0}, has_stays, example(), HISTORY, wrong)
            self.fails(InvalidStay, {"index": 1}, has_stays, example(), HISTORY, (0, 0), wrong, wrong)

    def test_order_of_errors(self):
        self.fails(NotCounts, {"value": 1}, has_stays, 1, None, None)
        self.fails(InvalidHistory, {"history": None}, has_stays, example(), None, None)
        self.fails(InvalidStay, {"index": 1}, has_stays, example(), HISTORY, (1, 1), None)


class HistoriesTest(ErrorCase):
    def test_example(self):
        self.assertEqual(list(histories(example())), [((0, 1, 1), (0, 2, 1), (2, 3, 1)), HISTORY])

    def test_a_generator(self):
        self.assertIsInstance(histories(example()), types.GeneratorType)

    def test_all_histories_of_small_counts(self):
        for counts in [*small_counts(1, 4), *small_counts(2, 4), *small_counts(3, 4), *small_counts(4, 3)]:
            found = list(histories(counts))
            self.assertEqual(found, slow_histories(counts))
            self.assertEqual(found, sorted(set(found)))
            self.assertTrue(all(is_history(counts, history) for history in found))

    def test_all_histories_of_random_counts(self):
        generator = random.Random(22)
        for ticks in (5, 6, 7):
            for _ in range(40):
                counts = random_counts(generator, ticks, 6)
                self.assertEqual(list(histories(counts)), slow_histories(counts))

    def test_nobody_arrives(self):
        self.assertEqual(list(histories(Counts.quiet(1))), [()])
        self.assertEqual(list(histories(Counts.quiet(60))), [()])

    def test_still_present_and_length_0(self):
        self.assertEqual(list(histories(Counts((999,), (0,)))), [((0, 1, 999),)])
        self.assertEqual(list(histories(Counts((999,), (998,)))), [((0, 0, 998), (0, 1, 1))])
        self.assertEqual(list(histories(Counts((1, 1), (0, 1)))), [((0, 1, 1), (1, 2, 1)), ((0, 2, 1), (1, 1, 1))])

    def test_a_smaller_number_comes_before_a_larger_one_and_none_comes_last(self):
        found = [history[0] for history in histories(Counts((2, 2, 0), (0, 2, 2)))]
        self.assertEqual(found, [(0, 1, 1), (0, 1, 2), (0, 2, 2)])

    def test_large_counts_begin_at_once(self):
        found = list(islice(histories(large_counts()), 200))
        self.assertEqual(len(found), 200)
        self.assertEqual(found, sorted(set(found)))
        self.assertTrue(all(is_history(large_counts(), history) for history in found))

    def test_what_cannot_become_a_history_is_not_tried(self):
        # One of 21 people, who leave one after another, arrived at tick 1; to
        # choose for each of the others whether they leave would take too long.
        counts = Counts((20, 1) + (0,) * 21, (0, 0) + (1,) * 21)
        found = list(histories(counts))
        self.assertEqual(len(found), 21)
        self.assertEqual({history[-1] for history in found}, {(1, left, 1) for left in range(2, 23)})

    def test_only_histories_of_sixty_ticks(self):
        counts = Counts((1,) * 60, (0,) + (1,) * 59)
        self.assertEqual(next(histories(counts)), (*[(k, k + 1, 1) for k in range(59)], (59, 60, 1)))
        counts = Counts((1,) * 60, (1,) * 60)
        self.assertEqual(list(histories(counts)), [tuple((k, k, 1) for k in range(60))])

    def test_by_name_and_called_again(self):
        self.assertEqual(list(histories(counts=example())), list(histories(example())))
        steps = histories(example())
        self.assertEqual([next(steps), next(histories(example()))], [next(histories(example()))] * 2)

    def test_no_counts(self):
        for wrong in NO_COUNTS:
            self.fails(NotCounts, {"value": wrong}, lambda: next(histories(wrong)))
            self.fails(NotCounts, {"value": wrong}, lambda: list(histories(counts=wrong)))


class HistoryWithTest(ErrorCase):
    def test_example(self):
        self.assertEqual(history_with(example(), (2, 2)), HISTORY)

    def test_all_known_stays_of_small_counts(self):
        for counts in small_counts(3, 3):
            found = slow_histories(counts)
            for size in range(4):
                for known in combinations_with_replacement(stays_of_size(3), size):
                    self.has_known(counts, found, known)

    def has_known(self, counts, found, known):
        why = obstacle(counts, *known)
        fitting = [history for history in found if has_stays(counts, history, *known)]
        self.assertIs(possible(counts, *known), fitting != [])
        if why is None:
            self.assertIn(history_with(counts, *known), fitting)
        else:
            word, tick = why
            self.fails(Impossible, {"word": word, "tick": tick}, history_with, counts, *known)

    def test_known_stays_in_any_order(self):
        counts = Counts((3, 2), (1, 2))
        for known in [*combinations([(1, 1), (0, 0), (0, 2), (0, 1), (1, 2)], 3), ((1, 2), (1, 2), (0, 1))]:
            for stays in (known, known[::-1]):
                if possible(counts, *stays):
                    found = history_with(counts, *stays)
                    self.assertTrue(is_history(counts, found) and has_stays(counts, found, *stays))

    def test_all_people_are_known(self):
        counts = Counts((999,) + (0,) * 59, (0,) * 59 + (998,))
        known = [(0, 60)] + [(0, 59)] * 998
        self.assertEqual(history_with(counts, *known), ((0, 59, 998), (0, 60, 1)))

    def test_nobody_arrives(self):
        self.assertEqual(history_with(Counts.quiet(60)), ())
        self.fails(Impossible, {"word": "arrivals", "tick": 59}, history_with, Counts.quiet(60), (59, 60))

    def test_the_largest_counts(self):
        found = history_with(large_counts(), (0, 60), (0, 59), (59, 60), (30, 30))
        self.assertTrue(is_history(large_counts(), found))
        self.assertTrue(has_stays(large_counts(), found, (0, 60), (0, 59), (59, 60), (30, 30)))

    def test_by_name(self):
        self.assertTrue(is_history(example(), history_with(counts=example())))

    def test_wrong_arguments(self):
        for wrong in NO_COUNTS:
            self.fails(NotCounts, {"value": wrong}, history_with, wrong)
            self.fails(NotCounts, {"value": wrong}, history_with, wrong, None)
            self.fails(NotCounts, {"value": wrong}, history_with, counts=wrong)
        for wrong in NO_STAYS:
            self.fails(InvalidStay, {"index": 0}, history_with, example(), wrong)
            self.fails(InvalidStay, {"index": 2}, history_with, example(), (1, 1), (1, 1), wrong, wrong)

    def test_impossible(self):
        self.fails(Impossible, {"word": "present", "tick": 1}, history_with, example(), (0, 2), (0, 3))
        self.fails(Impossible, {"word": "departures", "tick": 0}, history_with, example(), (0, 0))


class TogetherTest(ErrorCase):
    def test_bounds_are_met_by_histories(self):
        for counts in [*small_counts(2, 4), *small_counts(3, 3)]:
            found = list(histories(counts))
            for stay in stays_of_size(len(counts)):
                numbers = [numbers_with(history, stay) for history in found]
                least, greatest = bounds(counts, *stay)
                self.assertEqual((least, greatest), (min(numbers), max(numbers)))
                known = [stay] * greatest
                self.assertEqual(numbers_with(history_with(counts, *known), stay), greatest)
                self.assertFalse(possible(counts, stay, *known))

    def test_without_leaves_the_histories_of_the_others(self):
        for counts in small_counts(3, 3):
            for known in [(stay,) for stay in stays_of_size(3)] + [((0, 1), (1, 3)), ((0, 2), (0, 2))]:
                fitting = [history for history in histories(counts) if has_stays(counts, history, *known)]
                if fitting:
                    others = {added(history, known) for history in histories(counts.without(*known))}
                    self.assertEqual(others, set(fitting))
                else:
                    word, tick = obstacle(counts, *known)
                    self.fails(Impossible, {"word": word, "tick": tick}, counts.without, *known)

    def test_calls_change_nothing(self):
        counts = example()
        for call in (lambda: list(histories(counts)), lambda: history_with(counts, (2, 2)),
                     lambda: is_history(counts, HISTORY), lambda: has_stays(counts, HISTORY, (0, 3))):
            self.assertEqual(call(), call())
            self.assertEqual([counts, counts.present], [example(), (2, 1, 1, 0)])


def added(history, stays):
    """Return a history with known stays added."""
    people = Counter({(arrived, left): number for arrived, left, number in history}) + Counter(stays)
    return tuple(sorted((*stay, number) for stay, number in people.items()))
