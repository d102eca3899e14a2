"""Promises 2, 3, 10 and 33 to 35: chains of rooms, compared with everything that can have happened at the doors."""

import random
from itertools import combinations_with_replacement, product
from unittest.mock import ANY

from staycounts.chains import Chain
from staycounts.counts import Counts
from staycounts.errors import CountError, InvalidDoors, InvalidLength, InvalidNumber, InvalidTick
from staycounts.lengths import can_keep
from staycounts.ranges import within
from staycounts.rules import EldestFirst, YoungestFirst
from staycounts.stays import possible_departures
from tests.support import NO_INTEGERS, ErrorCase, all_outcomes, large_counts, random_rows, small_counts

ROWS = ((1, 1, 0, 0), (1, 0, 0, 1), (0, 0, 1, 1))


def example():
    """Return the chain of the document's examples."""
    return Chain((1, 1, 0, 0), (1, 0, 0, 1), (0, 0, 1, 1))


def small_rows():
    """Return the rows of small chains: all of two rooms with two ticks, and some with up to four rooms."""
    generator = random.Random(33)
    some = [random_rows(generator, doors, ticks, people) for doors in (1, 2, 3, 4)
            for ticks, people in ((1, 3), (3, 4), (4, 5), (5, 5), (6, 6)) for _ in range(8)]
    return [*two_rooms(2, 2), *two_rooms(3, 2), *some]


def two_rooms(ticks, people):
    """Return the rows of all chains of two rooms with so many ticks and at most so many people."""
    rooms = list(small_counts(ticks, people))
    return [(one.arrivals, one.departures, other.departures)
            for one, other in product(rooms, repeat=2) if one.departures == other.arrivals]


def large_rows():
    """Return the rows of a chain of four rooms with 60 ticks and 999 people."""
    return random_rows(random.Random(34), 4, 60, 999)


def ranges_of(ticks):
    """Return all ranges of so many ticks."""
    return [(first, last) for first in range(ticks) for last in range(first, ticks)]


def number_within(outcome, first, last):
    """Return how many of the stays in the house lie within a range."""
    return sum(number for (arrived, left), number in outcome.items() if first <= arrived and left <= last)


def keeps(outcome, ticks, least, most):
    """Return whether all stays in the house keep the limits."""
    return all((left == ticks or left - arrived >= least) and left - arrived <= most for arrived, left in outcome)


def slow_cuts(rows, first, last):
    """Return the sums of point 34 for all tuples that do not descend, as pairs (sum, tuple)."""
    found = []
    for places in combinations_with_replacement(range(first, last + 2), len(rows) - 1):
        edges = (first, *places, last + 1)
        counted = [row[tick] for row, low, high in zip(rows, edges, edges[1:]) for tick in range(low, high)]
        found.append((sum(counted), places))
    return found


class ExamplesTest(ErrorCase):
    def test_chain(self):
        found = [repr(example()), len(example()), str(example()[1]), str(example().house)]
        self.assertEqual(found, ["Chain(2 rooms, 4 ticks)", 2, "1/0 0/0 0/1 1/1", "1/0 1/0 0/1 0/1"])
        self.fails(InvalidDoors, {"index": 1}, Chain, (1, 0), (0, 2), (0, 0))

    def test_within(self):
        found = [example().within(1, 2), example().cuts(1, 2), example().within(1, 3)]
        self.assertEqual(found, [(0, 0), (1, 3), (1, 1)])

    def test_stays(self):
        found = [example().possible_departures(1), example().possible_departures(0), example().can_keep(most=2)]
        self.assertEqual(found, [(3,), (2,), True])

    def test_by_name(self):
        self.assertEqual(Chain(*ROWS), example())
        self.assertEqual(example().within(last=2, first=1), (0, 0))
        self.assertEqual(example().cuts(last=2, first=1), (1, 3))
        self.assertEqual(example().possible_departures(arrived=1), (3,))
        self.same(example().can_keep(most=2, least=1), True)


class ChainTest(ErrorCase):
    def test_rooms(self):
        for rows in small_rows():
            chain = Chain(*rows)
            self.same(len(chain), len(rows) - 1)
            for room in range(len(chain)):
                self.same(chain[room], Counts(rows[room], rows[room + 1]))
            self.same(chain.house, Counts(rows[0], rows[-1]))

    def test_one_and_four_doors(self):
        chain = Chain((1, 0), (0, 1))
        self.assertEqual([len(chain), chain[0], chain.house], [1, Counts((1, 0), (0, 1)), chain[0]])
        chain = Chain((3,), (3,), (2,), (1,), (0,))
        self.assertEqual([str(chain[room]) for room in range(4)], ["3/3", "3/2", "2/1", "1/0"])
        self.assertEqual([str(chain.house), chain.house.present], ["3/0", (3,)])

    def test_properties(self):
        self.assertIsInstance(vars(Chain)["house"], property)
        with self.assertRaises(AttributeError):
            example().house = Counts.quiet(1)

    def test_sixty_ticks_and_999_people(self):
        chain = Chain(*large_rows())
        self.assertEqual([len(chain), len(chain.house), chain.house.people], [4, 60, 999])
        chain = Chain((0,) * 59 + (999,), (0,) * 59 + (999,), (0,) * 59 + (999,))
        self.assertEqual(chain.house.present, (0,) * 60)

    def test_repr_keeps_its_words_for_one(self):
        self.assertEqual(repr(Chain((0,), (0,))), "Chain(1 rooms, 1 ticks)")
        self.assertEqual(repr(Chain(*large_rows())), "Chain(4 rooms, 60 ticks)")

    def test_wrong_rooms(self):
        for wrong in (-1, 2, 3, 10 ** 50, None, *NO_INTEGERS):
            self.fails(InvalidNumber, {"number": wrong}, lambda: example()[wrong])
        self.fails(InvalidNumber, {"number": -1}, lambda: Chain((0,), (0,))[-1])
        self.fails(InvalidNumber, {"number": 1}, lambda: Chain((0,), (0,))[1])
        self.fails(InvalidNumber, {"number": 4}, lambda: Chain(*large_rows())[4])

    def test_a_chain_is_not_iterated_over(self):
        with self.assertRaises(TypeError):
            list(example())


class EqualityTest(ErrorCase):
    def test_equal_chains(self):
        self.same(example() == example(), True)
        self.same(example() != example(), False)

    def test_all_small_chains(self):
        rows = two_rooms(2, 1) + [(one.arrivals, one.departures) for one in small_counts(2, 1)]
        for one, other in product(rows, repeat=2):
            self.same(Chain(*one) == Chain(*other), one == other)
            self.same(Chain(*one) != Chain(*other), one != other)

    def test_other_doors_in_the_same_house(self):
        one, other = Chain((1, 0), (1, 0), (0, 1)), Chain((1, 0), (0, 1), (0, 1))
        self.assertEqual(one.house, other.house)
        self.same(one == other, False)
        self.same(Chain((1, 0), (0, 1)) == other, False)

    def test_values_of_other_classes(self):
        for other in (None, 2, ROWS, (example()[0], example()[1]), example().house, Chain, "Chain(2 rooms, 4 ticks)",
                      object(), ANY):
            self.same(example() == other, False)
            self.same(example() != other, True)
        self.same(Counts((1,), (1,)) == Chain((1,), (1,)), False)


class InvalidDoorsTest(ErrorCase):
    def wrong(self, index, *rows):
        self.fails(InvalidDoors, {"index": index}, Chain, *rows)

    def test_base_class(self):
        with self.assertRaises(CountError):
            Chain((1,))

    def test_number_of_doors(self):
        self.wrong(None, (1,))
        self.wrong(None, (1,), *[(1,)] * 5)
        self.fails(InvalidDoors, {"index": None}, Chain, arrivals=(1,))

    def test_the_number_of_doors_is_checked_first(self):
        self.wrong(None, None)
        self.wrong(None, [1], *[(2,)] * 5)

    def test_no_tuples(self):
        for wrong in (None, 1, True, [1, 0], "10", b"10", {1: 0}, range(2), Counts((1, 0), (0, 0)), object()):
            self.wrong(0, wrong, (0, 0))
            self.wrong(0, wrong, wrong)
            self.wrong(1, (1, 0), wrong)
            self.wrong(2, (1, 0), (0, 0), wrong)
            self.wrong(4, (1, 0), (0, 0), (0, 0), (0, 0), wrong)

    def test_lengths(self):
        self.wrong(0, (), ())
        self.wrong(0, (0,) * 61, (0,) * 61)
        self.wrong(1, (1, 0), ())
        self.wrong(1, (1, 0), (0,))
        self.wrong(1, (1, 0), (0, 0, 0))
        self.wrong(2, (1, 0), (0, 0), (0,), (0,))
        self.wrong(3, (1, 0), (0, 0), (0, 0), (0, 0, 0))

    def test_numbers(self):
        for wrong in (-1, 1000, 10 ** 50, None, *NO_INTEGERS):
            self.wrong(0, (wrong, 0), (0, 0))
            self.wrong(0, (0, wrong), (0, 0))
            self.wrong(1, (5, 0), (wrong, 0))
            self.wrong(1, (5, 0), (0, wrong), (0, 0))
            self.wrong(2, (5, 0), (5, 0), (0, wrong))

    def test_1000_people(self):
        self.wrong(0, (999, 1), (0, 0))
        self.wrong(0, (999, 1), (999, 1))
        self.wrong(0, (500, 500), (500, 500), (0, 9))
        self.assertEqual(Chain((999, 0), (999, 0)).house.people, 999)

    def test_more_pass_than_are_in_the_room(self):
        self.wrong(1, (1, 0), (2, 0))
        self.wrong(1, (1, 0), (1, 1))
        self.wrong(1, (0, 1), (1, 0))
        self.wrong(2, (2, 0), (1, 0), (2, 0))
        self.wrong(2, (2, 0), (0, 1), (1, 0))
        self.wrong(4, (2,), (2,), (2,), (1,), (2,))

    def test_the_first_wrong_argument_is_told(self):
        self.wrong(0, (-1, 0), (9, 9), None)
        self.wrong(1, (1, 0), (9, 9), None)
        self.wrong(1, (1, 0), None, (9, 9))
        self.wrong(2, (1, 0), (1, 0), (0, 9), None)

    def test_all_small_rows(self):
        for rows in product(product((0, 1, 2), repeat=2), repeat=3):
            index = slow_index(rows)
            if index is None:
                self.assertEqual(Chain(*rows).house, Counts(rows[0], rows[2]))
            else:
                self.wrong(index, *rows)


def slow_index(rows):
    """Return the first door of small rows by which more people pass than are in the room before it, or None."""
    for index in range(1, len(rows)):
        if any(sum(rows[index][:k]) > sum(rows[index - 1][:k]) for k in range(1, 3)):
            return index
    return None


class WithinTest(ErrorCase):
    def test_agrees_with_all_outcomes(self):
        for rows in small_rows():
            outcomes = all_outcomes(rows)
            for first, last in ranges_of(len(rows[0])):
                numbers = [number_within(outcome, first, last) for outcome in outcomes]
                self.same(Chain(*rows).within(first, last), (min(numbers), max(numbers)))

    def test_one_room_is_as_counts(self):
        for counts in [*small_counts(3, 3), large_counts()]:
            chain = Chain(counts.arrivals, counts.departures)
            for first, last in ranges_of(len(counts))[:300]:
                self.assertEqual(chain.within(first, last), within(counts, first, last))

    def test_cuts_have_the_least_sum_and_are_the_first(self):
        for rows in small_rows():
            chain = Chain(*rows)
            for first, last in ranges_of(len(rows[0])):
                total, places = min(slow_cuts(rows, first, last))
                self.same(chain.cuts(first, last), places)
                self.assertEqual(chain.within(first, last)[1], total)

    def test_the_youngest_pass_first_in_a_large_chain(self):
        rows = large_rows()
        chain = Chain(*rows)
        for first, last in ((0, 0), (0, 59), (59, 59), (10, 12), (20, 45)):
            youngest = number_within(passing_through(rows, YoungestFirst()), first, last)
            eldest = number_within(passing_through(rows, EldestFirst()), first, last)
            self.assertEqual(chain.within(first, last), (eldest, youngest))
        for first, last in ((0, 0), (59, 59), (10, 12), (20, 26)):
            self.assertEqual((chain.within(first, last)[1], chain.cuts(first, last)), min(slow_cuts(rows, first, last)))

    def test_edges(self):
        quiet = Chain((0,) * 60, *[(0,) * 60] * 4)
        self.assertEqual([quiet.within(0, 59), quiet.cuts(0, 59), quiet.cuts(59, 59)],
                         [(0, 0), (0, 0, 0, 0), (59, 59, 59, 59)])
        full = Chain((999,), *[(999,)] * 4)
        self.assertEqual([full.within(0, 0), full.cuts(0, 0)], [(999, 999), (0, 0, 0, 0)])
        stuck = Chain((5, 0), (5, 0), (5, 0), (0, 5))
        self.assertEqual([stuck.within(0, 0), stuck.cuts(0, 0)], [(0, 0), (0, 0, 0)])
        late = Chain((0, 3), (0, 3), (0, 2))
        self.assertEqual([late.within(1, 1), late.cuts(1, 1), late.within(0, 0)], [(2, 2), (1, 1), (0, 0)])

    def test_cuts_behind_the_last_tick(self):
        self.assertEqual(Chain((5, 0), (5, 0), (0, 5)).cuts(1, 1), (1, 2))
        self.assertEqual(Chain((5, 1, 0), (0, 5, 0), (0, 5, 0)).cuts(1, 1), (2, 2))
        self.assertEqual(Chain((5, 1, 0), (5, 0, 1), (0, 5, 1)).cuts(1, 1), (1, 2))

    def test_wrong_ticks(self):
        for call in (example().within, example().cuts):
            for wrong in (-1, 4, 5, 10 ** 50, None, *NO_INTEGERS):
                self.fails(InvalidTick, {"tick": wrong}, call, wrong, 3)
                self.fails(InvalidTick, {"tick": wrong}, call, 0, wrong)
                self.fails(InvalidTick, {"tick": wrong}, call, last=wrong, first=0)
            self.fails(InvalidTick, {"tick": 0}, call, 1, 0)
            self.fails(InvalidTick, {"tick": -1}, call, -1, -2)
            self.fails(InvalidTick, {"tick": "a"}, call, last="b", first="a")


def passing_through(rows, rule):
    """Return the stays in the house if a rule chooses, among all people by their arrivals, who passes each door."""
    rooms = [[] for _ in rows]
    ended = {}
    youngest = rule == YoungestFirst()
    for tick in range(len(rows[0])):
        rooms[0] += [tick] * rows[0][tick]
        for door, row in enumerate(rows[1:]):
            rooms[door].sort(reverse=youngest)
            passing, rooms[door] = rooms[door][:row[tick]], rooms[door][row[tick]:]
            rooms[door + 1] += passing
        for arrived in rooms[-1]:
            ended[(arrived, tick)] = ended.get((arrived, tick), 0) + 1
        rooms[-1] = []
    return ended


class StaysTest(ErrorCase):
    def test_possible_departures_agree_with_all_outcomes(self):
        for rows in small_rows():
            stays = {stay for outcome in all_outcomes(rows) for stay in outcome}
            for tick in range(len(rows[0])):
                expected = tuple(sorted(left for arrived, left in stays if arrived == tick))
                self.same(Chain(*rows).possible_departures(tick), expected)

    def test_one_room_is_as_counts(self):
        for counts in small_counts(3, 3):
            chain = Chain(counts.arrivals, counts.departures)
            for tick in range(3):
                self.assertEqual(chain.possible_departures(tick), possible_departures(counts, tick))

    def test_several_doors_at_one_tick(self):
        chain = Chain((2, 0), (2, 0), (1, 0), (1, 0), (1, 0))
        self.assertEqual([chain.possible_departures(0), chain.possible_departures(1)], [(0, 2), ()])

    def test_people_still_in_a_room(self):
        chain = Chain((1, 1, 0), (1, 0, 0), (1, 0, 0))
        self.assertEqual([chain.possible_departures(tick) for tick in range(3)], [(0,), (3,), ()])
        chain = Chain((1, 1, 0), (1, 1, 0), (1, 0, 0))
        self.assertEqual([chain.possible_departures(tick) for tick in range(3)], [(0,), (3,), ()])

    def test_a_large_chain(self):
        chain = Chain(*large_rows())
        for tick in (0, 30, 59):
            self.assertLess(max((-1, *chain.possible_departures(tick))), 61)
        chain = Chain((2,) + (1,) * 59, *[(1,) * 60] * 4)
        self.assertEqual(chain.possible_departures(0), tuple(range(61)))

    def test_wrong_ticks(self):
        for wrong in (-1, 4, 5, 10 ** 50, None, *NO_INTEGERS):
            self.fails(InvalidTick, {"tick": wrong}, example().possible_departures, wrong)
            self.fails(InvalidTick, {"tick": wrong}, example().possible_departures, arrived=wrong)

    def test_can_keep_agrees_with_all_outcomes(self):
        for rows in small_rows():
            ticks, outcomes = len(rows[0]), all_outcomes(rows)
            for least, most in product((*range(ticks + 2), 60), repeat=2):
                expected = any(keeps(outcome, ticks, least, most) for outcome in outcomes)
                self.same(Chain(*rows).can_keep(least=least, most=most), expected)

    def test_can_keep_in_a_large_chain(self):
        rows = large_rows()
        eldest = passing_through(rows, EldestFirst())
        for least, most in ((0, 60), (1, 60), (0, 59), (3, 40), (60, 60)):
            expected = can_keep(Chain(*rows).house, least=least, most=most)
            self.same(Chain(*rows).can_keep(least=least, most=most), expected)
            if expected:
                self.assertTrue(keeps(eldest, 60, least, most))

    def test_defaults_of_can_keep(self):
        for rows in small_rows():
            self.same(Chain(*rows).can_keep(), True)
            self.same(Chain(*rows).can_keep(least=2), Chain(*rows).can_keep(least=2, most=60))
            self.same(Chain(*rows).can_keep(most=2), Chain(*rows).can_keep(least=0, most=2))

    def test_the_extreme_lengths(self):
        chain = Chain((1,) + (0,) * 59, (0,) * 60, (0,) * 60)
        self.assertEqual([chain.can_keep(), chain.can_keep(most=60), chain.can_keep(most=59)], [True, True, False])
        chain = Chain((1,), (1,), (1,))
        self.assertEqual([chain.can_keep(most=0), chain.can_keep(least=1), chain.can_keep(least=60)],
                         [True, False, False])
        self.same(Chain((0,), (0,)).can_keep(least=60, most=0), True)

    def test_wrong_lengths(self):
        call = example().can_keep
        for wrong in (-1, 61, 10 ** 50, None, *NO_INTEGERS):
            self.fails(InvalidLength, {"length": wrong}, call, least=wrong)
            self.fails(InvalidLength, {"length": wrong}, call, most=wrong)
            self.fails(InvalidLength, {"length": wrong}, call, most=-7, least=wrong)
            self.fails(InvalidLength, {"length": wrong}, call, most=wrong, least=60)
        with self.assertRaises(TypeError):
            call(0)

    def test_calls_change_nothing(self):
        chain = example()
        for call in (lambda: chain.within(1, 3), lambda: chain.cuts(0, 3), lambda: chain.possible_departures(0),
                     lambda: chain.can_keep(most=1), lambda: chain.house, lambda: chain[0]):
            self.assertEqual(call(), call())
            self.assertEqual([chain, chain.house, len(chain)], [example(), Counts(ROWS[0], ROWS[2]), 2])
