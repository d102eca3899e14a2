"""Promises 2, 3, 8, 10 and 38 to 40: the class Book itself, and what it returns."""

import random
from itertools import combinations_with_replacement
from unittest.mock import ANY

from staycounts.book import Book, assign_limit
from staycounts.counts import Counts
from staycounts.errors import CountError, Impossible, InvalidLength, InvalidStay, InvalidTick, LimitBroken, NotCounts
from staycounts.histories import has_stays
from staycounts.lengths import long_stays
from staycounts.ranges import within
from staycounts.stays import possible, possible_departures
from tests.support import (NO_COUNTS, NO_INTEGERS, NO_STAYS, ErrorCase, ended_stays_of_size, example, large_counts,
                           slow_histories, slow_obstacle, small_counts)


def number_within(history, first, last):
    """Return how many people of a history came and left within a range."""
    return sum(number for arrived, left, number in history if first <= arrived and left <= last)


def number_of_long(history, ticks, length):
    """Return how many people of a history have an ended stay of at least a length."""
    return sum(number for arrived, left, number in history if left < ticks and left - arrived >= length)


class ExamplesTest(ErrorCase):
    def test_book(self):
        book = Book(example(), (0, 3))
        found = [repr(book), book.known, str(book.others), book.max_length, book == Book(example())]
        self.assertEqual(found, ["Book(4 ticks, 3 people, 1 known)", ((0, 3),), "1/0 0/1 1/1 0/0", None, False])

    def test_within_long_stays_and_leave_ticks(self):
        book = Book(example(), (2, 2))
        self.assertEqual([book.within(2, 3), book.long_stays(3), book.leave_ticks(0)], [(1, 1), (1, 1), (1, 3)])

    def test_by_name(self):
        book = Book(counts=example())
        self.assertEqual(book, Book(example()))
        self.assertIsNone(book.do(deed=("learn", (2, 2))))
        self.assertEqual(book.within(last=3, first=2), (1, 1))
        self.assertEqual([book.long_stays(length=3), book.leave_ticks(arrived=0)], [(1, 1), (1, 3)])
        self.assertIsNone(assign_limit(value=3, book=book))
        self.assertEqual(book.max_length, 3)


class BookTest(ErrorCase):
    def test_a_new_book(self):
        counts = example()
        book = Book(counts)
        self.assertIs(book.counts, counts)
        self.same(book.known, ())
        self.same(book.others, counts)
        self.assertIsNone(book.max_length)
        self.same(book.log, ())
        self.same(len(book), 0)

    def test_properties(self):
        for name in ("counts", "known", "others", "max_length", "log"):
            self.assertIsInstance(vars(Book)[name], property)
        for name in ("counts", "known", "others", "log"):
            with self.assertRaises(AttributeError):
                setattr(Book(example()), name, ())

    def test_known_stays_are_sorted(self):
        counts = Counts((3, 1, 0), (1, 1, 1))
        for known in (((0, 0), (0, 1), (1, 2)), ((1, 2), (0, 1), (0, 0)), ((0, 1), (1, 2), (0, 0))):
            book = Book(counts, *known)
            self.same(book.known, ((0, 0), (0, 1), (1, 2)))
            self.assertEqual(book.others, Counts((1, 0, 0), (0, 0, 0)))

    def test_the_same_stay_known_twice(self):
        book = Book(Counts((3, 0), (1, 2)), (0, 1), (0, 1))
        self.assertEqual([book.known, str(book.others)], [((0, 1), (0, 1)), "1/1 0/0"])
        self.fails(Impossible, {"word": "present", "tick": 0}, Book, Counts((3, 0), (1, 2)), *[(0, 1)] * 3)

    def test_repr_keeps_its_words_for_one(self):
        self.assertEqual(repr(Book(Counts((1,), (1,)), (0, 0))), "Book(1 ticks, 1 people, 1 known)")
        self.assertEqual(repr(Book(Counts.quiet(60))), "Book(60 ticks, 0 people, 0 known)")
        book = Book(Counts((999,) + (0,) * 59, (0,) * 59 + (998,)), *[(0, 59)] * 998)
        self.assertEqual(repr(book), "Book(60 ticks, 999 people, 998 known)")
        self.assertEqual([str(book.others.people), book.leave_ticks(0)], ["1", (60,)])

    def test_no_counts(self):
        for wrong in NO_COUNTS:
            self.fails(NotCounts, {"value": wrong}, Book, wrong)
            self.fails(NotCounts, {"value": wrong}, Book, wrong, None)
            self.fails(NotCounts, {"value": wrong}, Book, counts=wrong)

    def test_no_stays(self):
        for wrong in NO_STAYS:
            self.fails(InvalidStay, {"index": 0}, Book, example(), wrong)
            self.fails(InvalidStay, {"index": 1}, Book, example(), (0, 1), wrong, wrong)
            self.fails(InvalidStay, {"index": 2}, Book, example(), (1, 1), (1, 1), wrong)

    def test_stays_that_are_not_ended(self):
        for wrong in ((0, 4), (3, 4)):
            self.fails(InvalidStay, {"index": 0}, Book, example(), wrong)
            self.fails(InvalidStay, {"index": 2}, Book, example(), (1, 1), (1, 1), wrong)
        self.fails(InvalidStay, {"index": 0}, Book, Counts((1,), (0,)), (0, 1))
        self.fails(InvalidStay, {"index": 0}, Book, Counts((1,) + (0,) * 59, (0,) * 60), (0, 60))
        with self.assertRaises(CountError):
            Book(example(), (0, 4))

    def test_impossible(self):
        self.fails(Impossible, {"word": "present", "tick": 1}, Book, example(), (0, 2), (0, 3))
        self.fails(Impossible, {"word": "departures", "tick": 0}, Book, example(), (0, 0))
        self.fails(Impossible, {"word": "arrivals", "tick": 1}, Book, example(), (1, 1))

    def test_known_stays_of_small_counts(self):
        for counts in small_counts(3, 3):
            for known in combinations_with_replacement(ended_stays_of_size(3), 2):
                why = slow_obstacle(counts, known)
                if why is None:
                    self.assertEqual(Book(counts, *known).others, counts.without(*known))
                else:
                    self.fails(Impossible, {"word": why[0], "tick": why[1]}, Book, counts, *known)


class EqualityTest(ErrorCase):
    def test_counts_known_stays_and_limit(self):
        books = [Book(example()), Book(example(), (0, 3)), Book(example(), (0, 1)), Book(example(), (0, 1), (0, 3)),
                 Book(Counts.quiet(4)), Book(example().changed(3, departures=0)), limited(3), limited(2), limited(60)]
        for k, one in enumerate(books):
            for m, other in enumerate(books):
                self.same(one == other, k == m)
                self.same(one != other, k != m)

    def test_equal_books(self):
        self.same(Book(example(), (0, 3), (2, 2)) == Book(example(), (2, 2), (0, 3)), True)
        self.same(Book(example(), (0, 3)) != Book(example(), (0, 3)), False)

    def test_the_log_makes_no_difference(self):
        book = Book(example())
        book.do_all(("learn", (0, 3)), ("limit", 4), ("limit", None))
        self.assertEqual([len(book), book], [3, Book(example(), (0, 3))])
        self.same(book != Book(example(), (0, 3)), False)

    def test_no_limit_is_not_the_limit_60(self):
        self.same(limited(60) == Book(example()), False)
        one, other = Book(Counts((1,), (1,))), Book(Counts((1,), (1,)))
        one.max_length = 0
        self.same(one == other, False)

    def test_values_of_other_classes(self):
        for other in (None, 0, example(), (example(), (), None), Book, "Book(4 ticks, 3 people, 0 known)", object(),
                      ANY, []):
            self.same(Book(example()) == other, False)
            self.same(Book(example()) != other, True)
        self.same(example() == Book(example()), False)


def limited(most):
    """Return a book of the example with a limit."""
    book = Book(example())
    book.max_length = most
    return book


class AnswersTest(ErrorCase):
    def test_agree_with_all_histories_that_have_the_known_stays(self):
        for counts in [*small_counts(2, 4), *small_counts(3, 3)]:
            found = slow_histories(counts)
            for size in range(3):
                for known in combinations_with_replacement(ended_stays_of_size(len(counts)), size):
                    if possible(counts, *known):
                        fitting = [history for history in found if has_stays(counts, history, *known)]
                        self.agrees(Book(counts, *known), counts, fitting, known)

    def agrees(self, book, counts, fitting, known):
        ticks = len(counts)
        for first in range(ticks):
            for last in range(first, ticks):
                numbers = [number_within(history, first, last) for history in fitting]
                self.same(book.within(first, last), (min(numbers), max(numbers)))
            more = [left for left in range(first, ticks + 1)
                    if any(has_stays(counts, history, *known, (first, left)) for history in fitting)]
            self.same(book.leave_ticks(first), tuple(more))
        for length in (*range(1, ticks + 2), 60):
            numbers = [number_of_long(history, ticks, length) for history in fitting]
            self.same(book.long_stays(length), (min(numbers), max(numbers)))

    def test_without_known_stays_as_the_functions(self):
        for counts in [*small_counts(3, 3), large_counts()]:
            book = Book(counts)
            self.assertEqual(book.within(0, len(counts) - 1), within(counts, 0, len(counts) - 1))
            self.assertEqual(book.within(1, 2), within(counts, 1, 2))
            self.assertEqual(book.long_stays(2), long_stays(counts, 2))
            self.assertEqual(book.leave_ticks(0), possible_departures(counts, 0))

    def test_the_limit_makes_no_difference(self):
        book = limited(2)
        self.assertEqual([book.within(2, 2), book.long_stays(3), book.leave_ticks(0)],
                         [within(example(), 2, 2), long_stays(example(), 3), possible_departures(example(), 0)])

    def test_leave_ticks_are_those_of_one_more_person(self):
        book = Book(example(), (0, 3))
        self.assertEqual([book.leave_ticks(tick) for tick in range(4)], [(1,), (), (2,), ()])
        book.do(("learn", (0, 1)))
        self.assertEqual([book.leave_ticks(tick) for tick in range(4)], [(), (), (2,), ()])

    def test_after_deeds(self):
        book = Book(example())
        book.do_all(("extend", 0, 0), ("correct", 3, 1, None), ("learn", (3, 3)))
        self.assertEqual([book.within(3, 4), book.within(3, 3), book.leave_ticks(2)], [(1, 1), (1, 1), (2, 5)])
        book.undo()
        self.assertEqual([book.within(3, 4), book.leave_ticks(2)], [(0, 1), (2, 3, 5)])

    def test_wrong_ticks(self):
        book = Book(example(), (0, 3))
        for wrong in (-1, 4, 5, 10 ** 50, None, *NO_INTEGERS):
            self.fails(InvalidTick, {"tick": wrong}, book.within, wrong, 3)
            self.fails(InvalidTick, {"tick": wrong}, book.within, 0, wrong)
            self.fails(InvalidTick, {"tick": wrong}, book.within, last=wrong, first=0)
            self.fails(InvalidTick, {"tick": wrong}, book.leave_ticks, wrong)
            self.fails(InvalidTick, {"tick": wrong}, book.leave_ticks, arrived=wrong)
        self.fails(InvalidTick, {"tick": 0}, book.within, 1, 0)
        self.fails(InvalidTick, {"tick": -1}, book.within, -1, -2)
        self.fails(InvalidTick, {"tick": "a"}, book.within, last="b", first="a")

    def test_wrong_lengths(self):
        book = Book(example(), (0, 3))
        for wrong in (0, -1, 61, 10 ** 50, None, *NO_INTEGERS):
            self.fails(InvalidLength, {"length": wrong}, book.long_stays, wrong)
            self.fails(InvalidLength, {"length": wrong}, book.long_stays, length=wrong)

    def test_calls_change_nothing(self):
        book = Book(example(), (0, 3))
        for call in (lambda: book.within(0, 2), lambda: book.long_stays(2), lambda: book.leave_ticks(0),
                     lambda: book.counts, lambda: book.known, lambda: book.others, lambda: book.log):
            self.assertEqual(call(), call())
            self.assertEqual([book, book.others, len(book)], [Book(example(), (0, 3)), example().without((0, 3)), 0])


class LimitTest(ErrorCase):
    def test_assigning(self):
        book = Book(example())
        for value in (60, 3, 2, None):
            book.max_length = value
            self.same(book.max_length, value)
        self.same(book.log, (("limit", 60), ("limit", 3), ("limit", 2), ("limit", None)))

    def test_assign_limit(self):
        book = Book(example())
        for value in (60, 3, 2, None):
            self.assertIsNone(assign_limit(book, value))
            self.same(book.max_length, value)
        self.assertEqual(len(book), 4)
        book.undo()
        self.assertEqual(book.max_length, 2)

    def test_a_limit_that_cannot_be_kept(self):
        book = Book(example(), (0, 3))
        for value in (2, 1, 0):
            self.fails(LimitBroken, {}, assign_limit, book, value)
            self.fails(LimitBroken, {}, setattr, book, "max_length", value)
        self.assertEqual([book.max_length, len(book)], [None, 0])
        assign_limit(book, 3)
        self.fails(LimitBroken, {}, assign_limit, book, 2)
        self.assertEqual([book.max_length, book.log], [3, (("limit", 3),)])

    def test_wrong_limits(self):
        book = limited(3)
        for wrong in (-1, 61, 10 ** 50, *NO_INTEGERS):
            self.fails(InvalidLength, {"length": wrong}, assign_limit, book, wrong)
            self.fails(InvalidLength, {"length": wrong}, setattr, book, "max_length", wrong)
            self.fails(InvalidLength, {"length": wrong}, assign_limit, value=wrong, book=book)
        self.assertEqual([book, len(book)], [limited(3), 1])

    def test_the_extreme_limits(self):
        book = Book(Counts((1,), (1,)))
        assign_limit(book, 0)
        self.same(book.max_length, 0)
        book = Book(Counts((1,) + (0,) * 59, (0,) * 60))
        self.fails(LimitBroken, {}, assign_limit, book, 59)
        assign_limit(book, 60)
        self.same(book.max_length, 60)
        self.fails(InvalidLength, {"length": 61}, assign_limit, book, 61)

    def test_agrees_with_all_histories(self):
        for counts in [*small_counts(2, 3), *small_counts(3, 3)]:
            found = slow_histories(counts)
            for known in [(), *[(stay,) for stay in ended_stays_of_size(len(counts))]]:
                if possible(counts, *known):
                    for most in range(4):
                        kept = any(has_stays(counts, history, *known)
                                   and all(left - arrived <= most for arrived, left, _ in history)
                                   for history in found)
                        self.is_limit(Book(counts, *known), most, kept)

    def is_limit(self, book, most, kept):
        if kept:
            assign_limit(book, most)
            self.assertEqual([book.max_length, len(book)], [most, 1])
        else:
            self.fails(LimitBroken, {}, assign_limit, book, most)
            self.assertEqual([book.max_length, len(book)], [None, 0])

    def test_a_large_book(self):
        generator = random.Random(38)
        counts = large_counts()
        book = Book(counts)
        for _ in range(100):
            arrived = generator.randrange(59)
            lefts = [left for left in book.leave_ticks(arrived) if left < 60]
            if lefts:
                book.do(("learn", (arrived, generator.choice(lefts))))
        self.assertTrue(possible(counts, *book.known))
        self.assertEqual([book.counts, book.others], [counts, counts.without(*book.known)])
        self.assertEqual(book.within(0, 59), (945, 945))
