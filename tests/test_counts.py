"""Promises 3, 4, 10 and 11: the class Counts itself."""

import unittest
from unittest.mock import ANY

from staycounts.counts import Counts
from staycounts.errors import InvalidCounts
from tests.support import NO_INTEGERS, ErrorCase, example, small_counts


class ExamplesTest(ErrorCase):
    def test_example(self):
        counts = Counts((2, 0, 1, 0), (0, 1, 1, 1))
        found = [str(counts), repr(counts), len(counts), counts.present, counts.people]
        self.assertEqual(found, ["2/0 0/1 1/1 0/1", "Counts(4 ticks, 3 people)", 4, (2, 1, 1, 0), 3])

    def test_example_with_more_departures_than_people(self):
        self.fails(InvalidCounts, {"tick": 1}, Counts, (1, 0), (0, 2))


class ValidTest(ErrorCase):
    def test_by_position_and_by_name(self):
        for counts in (Counts((1, 0), (0, 1)),
                       Counts((1, 0), departures=(0, 1)),
                       Counts(arrivals=(1, 0), departures=(0, 1)),
                       Counts(departures=(0, 1), arrivals=(1, 0))):
            self.same(counts.arrivals, (1, 0))
            self.same(counts.departures, (0, 1))

    def test_class_values(self):
        self.same(Counts.MAX_TICKS, 60)
        self.same(Counts.MAX_PEOPLE, 999)
        self.same(example().MAX_TICKS, 60)
        self.same(example().MAX_PEOPLE, 999)

    def test_attributes_are_set_on_the_object(self):
        self.assertEqual(vars(example())["arrivals"], (2, 0, 1, 0))
        self.assertEqual(vars(example())["departures"], (0, 1, 1, 1))

    def test_properties(self):
        self.assertIsInstance(Counts.__dict__["present"], property)
        self.assertIsInstance(Counts.__dict__["people"], property)
        counts = Counts((3, 1, 0), (1, 0, 2))
        self.same(counts.present, (2, 3, 1))
        self.same(counts.people, 4)

    def test_one_tick(self):
        counts = Counts((0,), (0,))
        self.assertEqual([len(counts), counts.present, counts.people, str(counts)], [1, (0,), 0, "0/0"])

    def test_sixty_ticks(self):
        counts = Counts((1,) * 60, (0,) * 60)
        self.assertEqual([len(counts), counts.people], [60, 60])
        self.assertEqual(counts.present, tuple(range(1, 61)))

    def test_999_people(self):
        self.assertEqual(Counts((999,), (999,)).present, (0,))
        self.assertEqual(Counts((999, 0), (0, 999)).present, (999, 0))
        self.assertEqual(Counts((499, 500), (499, 0)).people, 999)

    def test_people_can_leave_at_the_tick_of_their_arrival(self):
        self.assertEqual(Counts((2, 3), (2, 3)).present, (0, 0))

    def test_people_can_still_be_present_after_the_last_tick(self):
        self.assertEqual(Counts((2, 3), (1, 0)).present, (1, 4))

    def test_present_of_all_small_counts(self):
        for counts in small_counts(3, 3):
            sums = [sum(counts.arrivals[:k]) - sum(counts.departures[:k]) for k in (1, 2, 3)]
            self.assertEqual(counts.present, tuple(sums))
            self.assertEqual(counts.people, sum(counts.arrivals))


class InvalidTest(ErrorCase):
    def test_no_tuples(self):
        for wrong in ([1, 0], "10", None, 1, {1: 0, 0: 1}, b"10", range(2), example()):
            self.fails(InvalidCounts, {"tick": None}, Counts, wrong, (0, 0))
            self.fails(InvalidCounts, {"tick": None}, Counts, (1, 0), wrong)
            self.fails(InvalidCounts, {"tick": None}, Counts, arrivals=(1, 0), departures=wrong)
            self.fails(InvalidCounts, {"tick": None}, Counts, departures=(0, 0), arrivals=wrong)

    def test_lengths(self):
        self.fails(InvalidCounts, {"tick": None}, Counts, (), ())
        self.fails(InvalidCounts, {"tick": None}, Counts, (1, 1), (0,))
        self.fails(InvalidCounts, {"tick": None}, Counts, (1,), (0, 0))
        self.fails(InvalidCounts, {"tick": None}, Counts, (1,), ())
        self.fails(InvalidCounts, {"tick": None}, Counts, (0,) * 61, (0,) * 61)
        self.fails(InvalidCounts, {"tick": None}, Counts, (0,) * 60, (0,) * 61)

    def test_lengths_come_before_numbers(self):
        self.fails(InvalidCounts, {"tick": None}, Counts, (-1, 0), (0,))
        self.fails(InvalidCounts, {"tick": None}, Counts, (0,), [-1])
        self.fails(InvalidCounts, {"tick": None}, Counts, (-1,) * 61, (0,) * 61)

    def test_no_integers(self):
        for wrong in (None, *NO_INTEGERS):
            self.fails(InvalidCounts, {"tick": 0}, Counts, (wrong, 0), (0, 0))
            self.fails(InvalidCounts, {"tick": 1}, Counts, (1, wrong), (0, 0))
            self.fails(InvalidCounts, {"tick": 0}, Counts, (1, 0), (wrong, 0))
            self.fails(InvalidCounts, {"tick": 1}, Counts, (1, 0), (0, wrong))

    def test_numbers_out_of_their_limits(self):
        for wrong in (-1, 1000, 10 ** 50, -10 ** 50):
            self.fails(InvalidCounts, {"tick": 0}, Counts, (wrong, 0), (0, 0))
            self.fails(InvalidCounts, {"tick": 1}, Counts, (1, wrong), (0, 0))
            self.fails(InvalidCounts, {"tick": 1}, Counts, (1, 0), (0, wrong))

    def test_1000_people(self):
        self.fails(InvalidCounts, {"tick": 1}, Counts, (999, 1), (0, 0))
        self.fails(InvalidCounts, {"tick": 2}, Counts, (500, 0, 500), (500, 0, 500))
        self.fails(InvalidCounts, {"tick": 59}, Counts, (999,) + (0,) * 58 + (1,), (999,) + (0,) * 59)

    def test_fewer_than_nobody_present(self):
        self.fails(InvalidCounts, {"tick": 0}, Counts, (0,), (1,))
        self.fails(InvalidCounts, {"tick": 2}, Counts, (1, 0, 0, 5), (0, 1, 1, 0))

    def test_negative_departures_are_not_arrivals(self):
        self.fails(InvalidCounts, {"tick": 0}, Counts, (0, 0), (-1, 1))

    def test_the_first_tick_is_told(self):
        self.fails(InvalidCounts, {"tick": 1}, Counts, (1, 0, True), (0, 2, 0))
        self.fails(InvalidCounts, {"tick": 1}, Counts, (1, True, 0), (0, 0, 9))
        self.fails(InvalidCounts, {"tick": 1}, Counts, (999, 1, 0), (0, 0, None))
        self.fails(InvalidCounts, {"tick": 0}, Counts, (0, None), ("0", 0))
        self.fails(InvalidCounts, {"tick": 0}, Counts, (0, None), (1, 0))
        self.fails(InvalidCounts, {"tick": 0}, Counts, (0, 1000), (None, 0))


class EqualityTest(ErrorCase):
    def test_equal_counts(self):
        self.assertIs(example() == example(), True)
        self.assertIs(example() != example(), False)

    def test_other_arrivals_or_departures(self):
        for other in (Counts((2, 0, 2, 0), (0, 1, 1, 1)), Counts((2, 0, 1, 0), (0, 1, 1, 0)),
                      Counts((2, 0, 1), (0, 1, 1)), Counts.quiet(4)):
            self.assertIs(example() == other, False)
            self.assertIs(example() != other, True)

    def test_same_people_at_other_ticks(self):
        self.assertFalse(Counts((1, 0), (0, 0)) == Counts((0, 1), (0, 0)))
        self.assertFalse(Counts((2, 0), (1, 0)) == Counts((2, 0), (0, 1)))

    def test_values_of_other_classes(self):
        for other in (None, 4, "2/0 0/1 1/1 0/1", ((2, 0, 1, 0), (0, 1, 1, 1)), (2, 0, 1, 0), [], Counts, ANY):
            self.assertIs(example() == other, False)
            self.assertIs(example() != other, True)

    def test_equal_calls_return_equal_results(self):
        counts = example()
        self.assertEqual(counts.present, counts.present)
        self.assertEqual(str(counts), str(counts))
        self.assertEqual(counts, example())


class TextsTest(unittest.TestCase):
    def test_str(self):
        self.assertEqual(str(Counts((999, 0), (10, 989))), "999/10 0/989")
        self.assertEqual(str(Counts((0,), (0,))), "0/0")

    def test_repr_keeps_its_words_for_one(self):
        self.assertEqual(repr(Counts((1,), (0,))), "Counts(1 ticks, 1 people)")
        self.assertEqual(repr(Counts.quiet(60)), "Counts(60 ticks, 0 people)")
