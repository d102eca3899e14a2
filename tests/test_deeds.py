"""Promises 2, 3, 10, 38 and 39: the deeds of a book, their errors, `watch` and `undo`."""

import random

from staycounts.book import Book, assign_limit
from staycounts.counts import Counts
from staycounts.errors import (CountError, Impossible, InvalidCounts, InvalidDeed, InvalidLength, InvalidNumber,
                               InvalidStay, InvalidTick, LimitBroken, NotKnown, NothingToUndo, SearchError, TooMany)
from tests.support import (NO_INTEGERS, NO_STAYS, ErrorCase, all_histories, ended_stays_of_size, example, has_all,
                           random_counts, slow_obstacle)

NO_DEEDS = (
    None, 1, True, "undo", "limit", b"limit", (), [], {}, object(), example(), (None,), (1, 2), ((), 1), ([], 1),
    ["limit", 3], ["learn", (0, 1)], {"limit": 3}, ("limit",), ("limit", 3, None), ("learn",), ("learn", 0, 1),
    ("learn", (0, 1), (0, 2)), ("forget",), ("forget", 0, 1), ("correct",), ("correct", 1), ("correct", 1, 2),
    ("correct", 1, 2, 3, 4), ("extend",), ("extend", 1), ("extend", 1, 0, 0), ("undo",), ("undo", None), ("", 1),
    ("Limit", 3), ("limit ", 3), (b"limit", 3), (("limit", 3),), (("limit",), 3), ("known", (0, 1)), ("watch", None),
)
SOME_DEEDS = (("learn", (2, 2)), ("limit", 3), ("correct", 3, 1, None), ("extend", 2, 1), ("forget", (2, 2)))


def state_of(book):
    """Return all that a book tells about itself."""
    return (book.counts, book.known, book.others, book.max_length, book.log, len(book), repr(book))


class DeedCase(ErrorCase):
    def refuses(self, error_class, fields, book, deed):
        """Check that a book refuses a deed, however it is told, and is as before."""
        before = state_of(book)
        self.fails(error_class, fields, book.do, deed)
        self.assertEqual(state_of(book), before)
        self.fails(error_class, fields, book.do, deed=deed)
        self.fails(error_class, fields, book.do_all, deed)
        self.fails(error_class, fields, book.do_all, ("limit", book.max_length), deed)
        self.assertEqual(state_of(book), before)


class ExamplesTest(DeedCase):
    def test_do_all_and_undo(self):
        book = Book(example())
        self.assertIsNone(book.do_all(("learn", (2, 2)), ("limit", 3), ("correct", 3, 1, None)))
        self.assertIsNone(book.undo())
        found = [book.known, book.max_length, str(book.counts), len(book)]
        self.assertEqual(found, [((2, 2),), 3, "2/0 0/1 1/1 0/1", 2])

    def test_none_of_the_deeds_is_done(self):
        book = Book(example(), (0, 3))
        before = state_of(book)
        fields = {"word": "present", "tick": 1}
        self.fails(Impossible, fields, book.do_all, ("limit", 3), ("learn", (0, 2)))
        self.assertEqual(state_of(book), before)


class DoTest(DeedCase):
    def test_learn(self):
        book = Book(Counts((3, 0), (1, 2)), (0, 1))
        self.assertIsNone(book.do(("learn", (0, 0))))
        self.assertEqual([book.known, str(book.others)], [((0, 0), (0, 1)), "1/0 0/1"])
        book.do(("learn", (0, 1)))
        self.assertEqual([book.known, str(book.others)], [((0, 0), (0, 1), (0, 1)), "0/0 0/0"])
        self.same(book.log, (("learn", (0, 0)), ("learn", (0, 1))))

    def test_learn_no_stay(self):
        book = Book(example(), (0, 3))
        for wrong in (*NO_STAYS, (0, 4), (3, 4)):
            self.refuses(InvalidStay, {"index": 0}, book, ("learn", wrong))

    def test_learn_what_is_not_possible(self):
        book = Book(example(), (0, 3))
        self.refuses(Impossible, {"word": "present", "tick": 1}, book, ("learn", (0, 2)))
        self.refuses(Impossible, {"word": "present", "tick": 1}, book, ("learn", (0, 3)))
        self.refuses(Impossible, {"word": "arrivals", "tick": 1}, book, ("learn", (1, 1)))
        self.refuses(Impossible, {"word": "departures", "tick": 0}, book, ("learn", (0, 0)))

    def test_forget(self):
        book = Book(Counts((3, 0), (1, 2)), (0, 1), (0, 0), (0, 1))
        self.assertIsNone(book.do(("forget", (0, 1))))
        self.same(book.known, ((0, 0), (0, 1)))
        book.do(("forget", (0, 0)))
        book.do(("forget", (0, 1)))
        self.assertEqual([book.known, book.others, len(book)], [(), book.counts, 3])
        self.same(book.log[0], ("forget", (0, 1)))

    def test_forget_what_is_not_known(self):
        book = Book(example(), (0, 3), (2, 2))
        for wrong in (*NO_STAYS, (0, 1), (0, 2), (0, 4), (2, 3), (3, 4), ((0, 3),), ((0, 3), (2, 2))):
            self.refuses(NotKnown, {"stay": wrong}, book, ("forget", wrong))
        for wrong in ([0, 3], [2, 2], "03"):
            self.refuses(NotKnown, {"stay": wrong}, book, ("forget", wrong))
        book = Book(Counts((1, 1), (0, 2)), (0, 1), (1, 1))
        for wrong in ((False, True), (0, True), (False, 1), (True, 1), (1, True), (True, True)):
            self.refuses(NotKnown, {"stay": wrong}, book, ("forget", wrong))
        self.refuses(NotKnown, {"stay": (0, 1)}, Book(example()), ("forget", (0, 1)))

    def test_a_value_that_equals_everything_is_not_known(self):
        class Same:
            def __eq__(self, other):
                return True

        book = Book(example(), (0, 3))
        for value in (Same(), (Same(), 3), (0, Same())):
            with self.assertRaises(NotKnown) as caught:
                book.do(("forget", value))
            self.assertIs(caught.exception.stay, value)
            self.fails(InvalidStay, {"index": 0}, book.do, ("learn", value))
        self.fails(InvalidDeed, {"index": 0}, book.do, (Same(), 3))

    def test_correct(self):
        book = Book(example())
        self.assertIsNone(book.do(("correct", 3, 1, None)))
        self.assertEqual(str(book.counts), "2/0 0/1 1/1 1/1")
        book.do(("correct", 1, None, 0))
        self.assertEqual(str(book.counts), "2/0 0/0 1/1 1/1")
        book.do(("correct", 0, 5, 2))
        self.assertEqual([str(book.counts), book.others], ["5/2 0/0 1/1 1/1", book.counts])
        book.do(("correct", 2, None, None))
        self.assertEqual([str(book.counts), len(book)], ["5/2 0/0 1/1 1/1", 4])
        self.same(book.log[3], ("correct", 2, None, None))

    def test_correct_keeps_the_known_stays(self):
        book = Book(example(), (0, 3))
        book.do(("correct", 0, 4, 1))
        self.assertEqual([book.known, str(book.counts), str(book.others)],
                         [((0, 3),), "4/1 0/1 1/1 0/1", "3/1 0/1 1/1 0/0"])
        self.refuses(Impossible, {"word": "departures", "tick": 3}, book, ("correct", 3, None, 0))
        book.do(("correct", 3, 1, None))
        self.refuses(Impossible, {"word": "present", "tick": 1}, book, ("correct", 1, None, 3))

    def test_correct_with_wrong_values(self):
        book = Book(example(), (0, 3))
        for wrong in (-1, 4, 60, 10 ** 50, None, *NO_INTEGERS):
            self.refuses(InvalidTick, {"tick": wrong}, book, ("correct", wrong, None, None))
            self.refuses(InvalidTick, {"tick": wrong}, book, ("correct", wrong, -1, -1))
        for wrong in (-1, 1000, 10 ** 50, *NO_INTEGERS):
            self.refuses(InvalidNumber, {"number": wrong}, book, ("correct", 0, wrong, None))
            self.refuses(InvalidNumber, {"number": wrong}, book, ("correct", 0, wrong, -7))
            self.refuses(InvalidNumber, {"number": wrong}, book, ("correct", 0, None, wrong))
            self.refuses(InvalidNumber, {"number": wrong}, book, ("correct", 0, 1, wrong))
        self.refuses(InvalidCounts, {"tick": 1}, book, ("correct", 0, 0, None))
        self.refuses(InvalidCounts, {"tick": 2}, book, ("correct", 0, 999, None))
        self.refuses(InvalidCounts, {"tick": 3}, book, ("correct", 1, None, 2))

    def test_extend(self):
        book = Book(example(), (0, 3))
        self.assertIsNone(book.do(("extend", 2, 1)))
        self.assertEqual([str(book.counts), str(book.others), book.known],
                         ["2/0 0/1 1/1 0/1 2/1", "1/0 0/1 1/1 0/0 2/1", ((0, 3),)])
        book.do(("learn", (4, 4)))
        self.assertEqual(book.known, ((0, 3), (4, 4)))
        self.same(book.log[0], ("extend", 2, 1))

    def test_what_was_still_present_can_have_left_after_extending(self):
        book = Book(Counts((1,), (0,)))
        self.refuses(InvalidStay, {"index": 0}, book, ("learn", (0, 1)))
        book.do_all(("extend", 0, 1), ("learn", (0, 1)))
        self.assertEqual([book.known, book.others], [((0, 1),), Counts.quiet(2)])

    def test_extend_with_wrong_values(self):
        book = Book(example())
        for wrong in (-1, 1000, 10 ** 50, None, *NO_INTEGERS):
            self.refuses(InvalidNumber, {"number": wrong}, book, ("extend", wrong, 0))
            self.refuses(InvalidNumber, {"number": wrong}, book, ("extend", wrong, -7))
            self.refuses(InvalidNumber, {"number": wrong}, book, ("extend", 0, wrong))
            self.refuses(InvalidNumber, {"number": wrong}, Book(Counts.quiet(60)), ("extend", 0, wrong))
        self.refuses(InvalidCounts, {"tick": 4}, book, ("extend", 0, 1))
        self.refuses(InvalidCounts, {"tick": 4}, book, ("extend", 997, 0))
        self.refuses(TooMany, {"limit": 60}, Book(Counts.quiet(60)), ("extend", 0, 0))
        self.refuses(TooMany, {"limit": 60}, Book(Counts.quiet(60)), ("extend", 0, 1))
        book = Book(Counts.quiet(59))
        book.do(("extend", 999, 999))
        self.assertEqual([len(book.counts), book.counts.people], [60, 999])

    def test_limit(self):
        book = Book(example())
        for most in (2, 60, None, 3):
            self.assertIsNone(book.do(("limit", most)))
            self.same(book.max_length, most)
        self.assertEqual(len(book), 4)

    def test_limit_with_wrong_values(self):
        for wrong in (-1, 61, 10 ** 50, *NO_INTEGERS):
            self.refuses(InvalidLength, {"length": wrong}, Book(example()), ("limit", wrong))
            self.refuses(InvalidLength, {"length": wrong}, Book(example(), (0, 3)), ("limit", wrong))


class BrokenLimitTest(DeedCase):
    def test_the_limit_itself(self):
        self.refuses(LimitBroken, {}, Book(example()), ("limit", 1))
        self.refuses(LimitBroken, {}, Book(example(), (0, 3)), ("limit", 2))
        book = Book(Counts((1,), (1,)))
        book.do(("limit", 0))
        self.assertEqual(book.max_length, 0)

    def test_a_longer_known_stay(self):
        book = Book(example())
        book.do(("limit", 2))
        self.refuses(LimitBroken, {}, book, ("learn", (0, 3)))
        book.do(("learn", (0, 2)))
        self.assertEqual([book.known, book.max_length], [((0, 2),), 2])

    def test_the_others_cannot_keep_it(self):
        book = Book(example())
        book.do(("limit", 2))
        # Somebody who came at tick 0 would have to leave at tick 3.
        self.refuses(LimitBroken, {}, book, ("learn", (2, 2)))
        self.refuses(LimitBroken, {}, book, ("correct", 2, None, 0))

    def test_people_still_present(self):
        book = Book(Counts((1, 0), (0, 0)))
        book.do(("limit", 2))
        self.refuses(LimitBroken, {}, book, ("extend", 0, 0))
        book.do(("extend", 0, 1))
        self.assertEqual(str(book.counts), "1/0 0/0 0/1")

    def test_forgetting(self):
        book = Book(example(), (0, 2))
        book.do_all(("limit", 2), ("forget", (0, 2)))
        self.assertEqual([book.known, book.max_length], [(), 2])

    def test_impossible_comes_before_the_limit(self):
        book = Book(example(), (0, 2))
        book.do(("limit", 2))
        self.refuses(Impossible, {"word": "present", "tick": 1}, book, ("learn", (0, 3)))
        self.refuses(Impossible, {"word": "departures", "tick": 2}, book, ("correct", 2, None, 0))

    def test_the_errors_of_the_deed_come_before_all_others(self):
        book = Book(example(), (0, 2))
        book.do(("limit", 2))
        self.refuses(InvalidStay, {"index": 0}, book, ("learn", (0, 4)))
        self.refuses(InvalidCounts, {"tick": 3}, book, ("correct", 2, 0, 1))

    def test_without_a_limit_nothing_is_broken(self):
        book = Book(example())
        book.do_all(("limit", 2), ("limit", None), ("learn", (0, 3)))
        self.assertEqual(book.known, ((0, 3),))


class InvalidDeedTest(DeedCase):
    def test_no_deeds(self):
        book = Book(example(), (0, 3))
        before = state_of(book)
        for wrong in NO_DEEDS:
            self.fails(InvalidDeed, {"index": 0}, book.do, wrong)
            self.fails(InvalidDeed, {"index": 0}, book.do, deed=wrong)
            self.fails(InvalidDeed, {"index": 0}, book.do_all, wrong)
            self.fails(InvalidDeed, {"index": 1}, book.do_all, ("limit", 3), wrong, None)
            self.assertEqual(state_of(book), before)

    def test_base_class(self):
        with self.assertRaises(CountError):
            Book(example()).do(())

    def test_whatever_the_other_elements_are(self):
        book = Book(example())
        self.refuses(InvalidStay, {"index": 0}, book, ("learn", None))
        self.refuses(NotKnown, {"stay": None}, book, ("forget", None))
        self.refuses(InvalidTick, {"tick": None}, book, ("correct", None, "", ()))
        self.refuses(InvalidNumber, {"number": ()}, book, ("extend", (), None))
        self.refuses(InvalidLength, {"length": "none"}, book, ("limit", "none"))

    def test_all_values_are_checked_before_anything_is_done(self):
        book = Book(example())
        seen = []
        call = book.do_all
        self.fails(InvalidDeed, {"index": 2}, call, ("limit", 3), ("limit", -1), (), watch=lambda *_: seen.append(1))
        self.fails(InvalidDeed, {"index": 1}, call, ("learn", None), ("limit",), ("limit", 2))
        self.assertEqual([seen, len(book), book.max_length], [[], 0, None])


class DoAllTest(DeedCase):
    def test_no_deeds_at_all(self):
        book = Book(example())
        self.assertIsNone(book.do_all())
        self.assertIsNone(book.do_all(watch=None))
        self.assertEqual(len(book), 0)

    def test_the_deeds_are_done_in_order(self):
        book = Book(example())
        self.assertIsNone(book.do_all(*SOME_DEEDS))
        self.same(book.log, SOME_DEEDS)
        one_by_one = Book(example())
        for deed in SOME_DEEDS:
            one_by_one.do(deed)
        self.assertEqual(state_of(book), state_of(one_by_one))

    def test_a_deed_in_the_middle_is_refused(self):
        book = Book(example(), (0, 3))
        book.do(("limit", 4))
        before = state_of(book)
        for error_class, fields, deed in (
            (Impossible, {"word": "present", "tick": 1}, ("learn", (0, 2))), (NotKnown, {"stay": 7}, ("forget", 7)),
            (InvalidTick, {"tick": 9}, ("correct", 9, 0, 0)), (InvalidNumber, {"number": None}, ("extend", None, 0)),
            (LimitBroken, {}, ("limit", 2)), (InvalidLength, {"length": 61}, ("limit", 61)),
        ):
            self.fails(error_class, fields, book.do_all, ("extend", 1, 0), ("learn", (2, 2)), deed, ("limit", None))
            self.assertEqual(state_of(book), before)

    def test_a_later_deed_sees_the_ones_before(self):
        book = Book(Counts((1,), (0,)))
        book.do_all(("extend", 0, 1), ("learn", (0, 1)), ("forget", (0, 1)), ("limit", 1))
        self.assertEqual([book.known, book.max_length, len(book)], [(), 1, 4])

    def test_a_state_between_that_is_not_possible_is_refused(self):
        book = Book(example(), (0, 3))
        deeds = (("correct", 3, None, 0), ("forget", (0, 3)))
        self.fails(Impossible, {"word": "departures", "tick": 3}, book.do_all, *deeds)
        book.do_all(*deeds[::-1])
        self.assertEqual(str(book.counts), "2/0 0/1 1/1 0/0")


class WatchTest(DeedCase):
    def test_it_is_called_after_each_deed(self):
        book = Book(example())
        seen = []
        self.assertIsNone(book.do_all(*SOME_DEEDS, watch=lambda *told: seen.append((told, state_of(told[0])))))
        expected = Book(example())
        for index, deed in enumerate(SOME_DEEDS):
            expected.do(deed)
            self.assertIs(seen[index][0][0], book)
            self.same(seen[index][0][1], index)
            self.assertEqual(seen[index][1], state_of(expected))
        self.assertEqual(len(seen), len(SOME_DEEDS))

    def test_its_answer_makes_no_difference(self):
        for answer in (True, False, None, 0):
            book = Book(example())
            self.assertIsNone(book.do_all(*SOME_DEEDS, watch=lambda book, index: answer))
            self.assertEqual(len(book), len(SOME_DEEDS))

    def test_it_raises(self):
        class Own(Exception):
            pass

        for error in (Own("a"), ValueError(1), KeyError("k"), SearchError(), LimitBroken(), Impossible("present", 9),
                      InvalidDeed(5), TypeError(), StopIteration(), KeyboardInterrupt(), SystemExit(1)):
            for place in range(len(SOME_DEEDS)):
                self.raises_at(error, place)

    def raises_at(self, error, place):
        book = Book(example(), (0, 1))
        book.do(("limit", 4))
        before = state_of(book)
        seen = []

        def watch(held, index):
            seen.append(index)
            if index == place:
                raise error

        with self.assertRaises(type(error)) as caught:
            book.do_all(*SOME_DEEDS, watch=watch)
        self.assertIs(caught.exception, error)
        self.assertEqual([state_of(book), seen], [before, list(range(place + 1))])
        book.do_all(*SOME_DEEDS)
        self.assertEqual(len(book), 1 + len(SOME_DEEDS))

    def test_it_is_not_called_for_a_refused_deed(self):
        book = Book(example())
        seen = []
        self.fails(LimitBroken, {}, book.do_all, ("limit", 2), ("limit", 1), watch=lambda *told: seen.append(told[1]))
        self.assertEqual([seen, len(book), book.max_length], [[0], 0, None])

    def test_another_book_may_be_changed(self):
        book, other = Book(example()), Book(example())
        book.do_all(*SOME_DEEDS, watch=lambda held, index: other.do(held.log[index]))
        self.assertEqual(state_of(book), state_of(other))

    def test_it_is_passed_by_name_only(self):
        self.fails(InvalidDeed, {"index": 1}, Book(example()).do_all, ("limit", 3), print)


class UndoTest(DeedCase):
    def test_each_deed_is_taken_back(self):
        book = Book(example(), (0, 1))
        states = []
        for deed in SOME_DEEDS:
            states.append(state_of(book))
            book.do(deed)
        for state in states[::-1]:
            self.assertIsNone(book.undo())
            self.assertEqual(state_of(book), state)
        self.fails(NothingToUndo, {}, book.undo)
        self.assertEqual(state_of(book), states[0])

    def test_the_deeds_of_do_all_are_taken_back_one_by_one(self):
        book = Book(example())
        book.do_all(*SOME_DEEDS)
        for number in (4, 3, 2, 1, 0):
            book.undo()
            self.assertEqual(book.log, SOME_DEEDS[:number])

    def test_nothing_to_undo(self):
        for book in (Book(example()), Book(example(), (0, 3))):
            before = state_of(book)
            self.fails(NothingToUndo, {}, book.undo)
            self.assertEqual(state_of(book), before)
            with self.assertRaises(SearchError):
                book.undo()

    def test_a_refused_deed_is_not_in_the_log(self):
        book = Book(example())
        self.fails(LimitBroken, {}, book.do, ("limit", 0))
        self.fails(NothingToUndo, {}, book.undo)
        book.do(("limit", 4))
        self.fails(InvalidDeed, {"index": 1}, book.do_all, ("limit", 3), ())
        book.undo()
        self.assertEqual(state_of(book), state_of(Book(example())))

    def test_an_assigned_limit_is_taken_back(self):
        book = Book(example())
        book.max_length = 4
        assign_limit(book, 3)
        book.undo()
        self.assertEqual(book.max_length, 4)
        book.undo()
        self.assertIsNone(book.max_length)

    def test_after_undo_deeds_follow_the_state_before(self):
        book = Book(example())
        book.do_all(("extend", 0, 0), ("limit", 4))
        book.undo()
        book.undo()
        self.fails(InvalidTick, {"tick": 4}, book.do, ("correct", 4, 0, 0))
        book.do(("extend", 1, 0))
        self.assertEqual([str(book.counts), book.log], ["2/0 0/1 1/1 0/1 1/0", (("extend", 1, 0),)])


class RandomDeedsTest(DeedCase):
    """Small books, compared with all histories that have the known stays and keep the limit."""

    def test_random_deeds(self):
        generator = random.Random(39)
        for _ in range(120):
            counts = random_counts(generator, generator.randint(1, 3), generator.randint(0, 4))
            book, state, log = Book(counts), (counts, (), None), []
            for _ in range(25):
                if generator.random() < 0.1 and log:
                    book.undo()
                    state = log.pop()[1]
                else:
                    deed = random_deed(generator, state)
                    if self.follows(book, deed, expected_after(state, deed)):
                        log.append((deed, state))
                        state = expected_after(state, deed)[1]
                found = (book.counts, book.known, book.max_length, book.log)
                self.assertEqual(found, (*state, tuple(done for done, _ in log)))
                self.assertEqual(book.others, state[0].without(*state[1]))

    def follows(self, book, deed, expected):
        error_class, told = expected
        if error_class is None:
            self.assertIsNone(book.do(deed))
            return True
        self.refuses(error_class, told, book, deed)
        return False


def random_deed(generator, state):
    """Return a deed that fits the counts, but that is not always possible."""
    counts, known, limit = state
    ticks = len(counts)
    numbers = (0, 1, 1, 2)
    word = generator.choice(("learn", "learn", "learn", "forget", "correct", "correct", "extend", "limit", "limit"))
    if word == "learn":
        return (word, generator.choice(ended_stays_of_size(ticks)))
    if word == "forget":
        return (word, generator.choice((*known, *known, (0, 0))))
    if word == "correct":
        return (word, generator.randrange(ticks), generator.choice((None, *numbers)), generator.choice((None, 0, 1)))
    if word == "extend" and ticks < 4:
        return (word, generator.choice(numbers), generator.choice((0, 1)))
    return ("limit", generator.choice((None, 0, 1, 2, 3, 4, 60)))


def expected_after(state, deed):
    """Return (None, state) after a deed, or the class and the fields of its error, found by going through histories."""
    counts, known, limit = state
    if deed[0] == "learn":
        known = tuple(sorted((*known, deed[1])))
    elif deed[0] == "forget":
        if deed[1] not in known:
            return NotKnown, {"stay": deed[1]}
        known = list(known)
        known.remove(deed[1])
        known = tuple(known)
    elif deed[0] == "limit":
        limit = deed[1]
    else:
        try:
            counts = changed(counts, deed)
        except InvalidCounts as error:
            return InvalidCounts, {"tick": error.tick}
    fitting = [history for history in all_histories(counts) if has_all(history, known)]
    if not fitting:
        word, tick = slow_obstacle(counts, known)
        return Impossible, {"word": word, "tick": tick}
    if limit is not None and not any(max((b - a for a, b in h), default=0) <= limit for h in fitting):
        return LimitBroken, {}
    return None, (counts, known, limit)


def changed(counts, deed):
    """Return the counts after a correction or an extension."""
    if deed[0] == "extend":
        return Counts((*counts.arrivals, deed[1]), (*counts.departures, deed[2]))
    arrivals, departures = list(counts.arrivals), list(counts.departures)
    if deed[2] is not None:
        arrivals[deed[1]] = deed[2]
    if deed[3] is not None:
        departures[deed[1]] = deed[3]
    return Counts(tuple(arrivals), tuple(departures))
