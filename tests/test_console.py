"""Promises 3, 9, 10 and 44: the console, its commands and their answers."""

import random
from itertools import product

from staycounts.book import Book
from staycounts.chances import ways
from staycounts.console import Console
from staycounts.errors import (CountError, Impossible, InvalidCommand, InvalidCounts, InvalidLength, InvalidNumber,
                               InvalidStay, InvalidText, InvalidTick, LimitBroken, NotKnown, NothingToUndo, TooMany)
from tests.support import ErrorCase, all_ways, example, large_counts, small_counts

EXAMPLE = "2/0 0/1 1/1 0/1"
# How many numbers stand behind each word.
NUMBERS = {"learn": 2, "forget": 2, "correct": 3, "extend": 2, "limit": 1, "undo": 0, "counts": 0, "known": 0,
           "log": 0, "within": 2, "long": 1, "leave": 1, "ways": 0}
NO_TEXTS = (None, 1, True, (), [], {}, b"1/0", ("1/0",), ["1/0"], example(), object(), "", " ", "1", "1/", "/1", "1/0 ",
            " 1/0", "1/0  0/0", "01/0", "1/00", "-1/0", "+1/0", "1/2", "1000/0", "999/0 1/0", "1/0\n", "1/0\t0/0",
            " ".join(["0/0"] * 61), "1 / 0", "a/0", "1/0/0", "1-0")


def state_of(console):
    """Return all that a console and its book tell about themselves."""
    book = console.book
    told = tuple(console.execute(command) for command in ("counts", "known", "log", "ways"))
    return (book.counts, book.known, book.others, book.max_length, book.log, len(book), told)


class ConsoleCase(ErrorCase):
    def answers(self, console, *pairs):
        """Check the answers of a console to commands, one after another."""
        for command, answer in pairs:
            self.same(console.execute(command), answer)

    def refuses(self, console, error_class, fields, command):
        before = state_of(console)
        self.fails(error_class, fields, console.execute, command)
        self.fails(error_class, fields, console.execute, command=command)
        self.assertEqual(state_of(console), before)

    def is_no_command(self, console, command):
        self.refuses(console, InvalidCommand, {"command": command}, command)


class ExamplesTest(ConsoleCase):
    def test_example(self):
        self.answers(Console(EXAMPLE), ("learn 2 2", "ok"), ("known", "2-2"), ("leave 0", "1 3"), ("within 0 2", "2"),
                     ("ways", "2"))
        self.fails(InvalidCommand, {"command": "learn 0  0"}, Console("1/0").execute, "learn 0  0")


class ConsoleTest(ConsoleCase):
    def test_a_new_console(self):
        for console in (Console(EXAMPLE), Console(text=EXAMPLE)):
            self.assertIs(type(console.book), Book)
            self.assertEqual([console.book, console.book.log], [Book(example()), ()])
            self.answers(console, ("counts", EXAMPLE), ("known", "none"), ("log", "0"), ("ways", "4"))

    def test_the_book_is_set_on_the_object(self):
        console = Console(EXAMPLE)
        self.assertIs(vars(console)["book"], console.book)

    def test_the_same_book_all_the_time(self):
        console = Console(EXAMPLE)
        book = console.book
        for command in ("learn 2 2", "limit 3", "correct 3 1 -", "extend 0 0", "undo", "forget 2 2", "known"):
            console.execute(command)
            self.assertIs(console.book, book)
        self.fails(InvalidCommand, {"command": ""}, console.execute, "")
        self.fails(LimitBroken, {}, console.execute, "limit 0")
        self.assertIs(console.book, book)

    def test_a_console_equals_only_itself(self):
        one, other = Console(EXAMPLE), Console(EXAMPLE)
        self.same(one == one, True)
        self.same(one != one, False)
        for value in (other, one.book, None, EXAMPLE, example(), Console, object(), 0):
            self.same(one == value, False)
            self.same(one != value, True)
            self.same(value == one, False)

    def test_two_consoles_have_two_books(self):
        one, other = Console(EXAMPLE), Console(EXAMPLE)
        one.execute("limit 3")
        self.assertEqual([len(one.book), len(other.book)], [1, 0])

    def test_wrong_texts(self):
        for wrong in NO_TEXTS:
            self.fails(InvalidText, {"text": wrong}, Console, wrong)
            self.fails(InvalidText, {"text": wrong}, Console, text=wrong)
        with self.assertRaises(CountError):
            Console(None)

    def test_the_largest_counts(self):
        console = Console(str(large_counts()))
        self.answers(console, ("counts", str(large_counts())), ("ways", str(ways(large_counts()))),
                     ("within 0 59", "945"))


class DeedsTest(ConsoleCase):
    def test_learn_and_forget(self):
        console = Console("3/1 0/2")
        self.answers(console, ("learn 0 1", "ok"), ("learn 0 0", "ok"), ("learn 0 1", "ok"), ("known", "0-0 0-1 0-1"),
                     ("log", "3"), ("forget 0 1", "ok"), ("known", "0-0 0-1"), ("forget 0 0", "ok"), ("known", "0-1"))
        self.same(console.book.log, (("learn", (0, 1)), ("learn", (0, 0)), ("learn", (0, 1)), ("forget", (0, 1)),
                                     ("forget", (0, 0))))

    def test_correct(self):
        console = Console(EXAMPLE)
        self.answers(console, ("correct 3 1 -", "ok"), ("counts", "2/0 0/1 1/1 1/1"), ("correct 1 - 0", "ok"),
                     ("counts", "2/0 0/0 1/1 1/1"), ("correct 0 5 2", "ok"), ("counts", "5/2 0/0 1/1 1/1"),
                     ("correct 2 - -", "ok"), ("counts", "5/2 0/0 1/1 1/1"))
        self.same(console.book.log, (("correct", 3, 1, None), ("correct", 1, None, 0), ("correct", 0, 5, 2),
                                     ("correct", 2, None, None)))

    def test_extend(self):
        console = Console("1/0")
        self.answers(console, ("extend 12 3", "ok"), ("extend 0 0", "ok"), ("counts", "1/0 12/3 0/0"))
        self.same(console.book.log, (("extend", 12, 3), ("extend", 0, 0)))

    def test_limit(self):
        console = Console(EXAMPLE)
        for command, limit in (("limit 60", 60), ("limit 2", 2), ("limit none", None), ("limit 3", 3)):
            self.answers(console, (command, "ok"))
            self.same(console.book.max_length, limit)
        self.same(console.book.log, (("limit", 60), ("limit", 2), ("limit", None), ("limit", 3)))

    def test_undo(self):
        console = Console(EXAMPLE)
        self.answers(console, ("learn 2 2", "ok"), ("correct 3 1 -", "ok"), ("undo", "ok"), ("counts", EXAMPLE),
                     ("known", "2-2"), ("undo", "ok"), ("known", "none"), ("log", "0"))
        self.refuses(console, NothingToUndo, {}, "undo")

    def test_errors_of_deeds(self):
        console = Console(EXAMPLE)
        self.answers(console, ("learn 0 3", "ok"), ("limit 4", "ok"))
        for command, error_class, fields in (
            ("learn 0 4", InvalidStay, {"index": 0}), ("learn 3 2", InvalidStay, {"index": 0}),
            ("learn 9999 9999", InvalidStay, {"index": 0}),
            ("learn 0 0", Impossible, {"word": "departures", "tick": 0}),
            ("learn 0 2", Impossible, {"word": "present", "tick": 1}), ("forget 0 1", NotKnown, {"stay": (0, 1)}),
            ("forget 9999 0", NotKnown, {"stay": (9999, 0)}), ("correct 4 0 0", InvalidTick, {"tick": 4}),
            ("correct 9999 9999 9999", InvalidTick, {"tick": 9999}),
            ("correct 0 1000 9999", InvalidNumber, {"number": 1000}),
            ("correct 0 - 1000", InvalidNumber, {"number": 1000}), ("correct 0 0 -", InvalidCounts, {"tick": 1}),
            ("correct 3 - 0", Impossible, {"word": "departures", "tick": 3}),
            ("extend 1000 0", InvalidNumber, {"number": 1000}), ("extend 0 9999", InvalidNumber, {"number": 9999}),
            ("extend 0 1", InvalidCounts, {"tick": 4}), ("extend 997 0", InvalidCounts, {"tick": 4}),
            ("limit 61", InvalidLength, {"length": 61}), ("limit 9999", InvalidLength, {"length": 9999}),
            ("limit 2", LimitBroken, {}), ("limit 0", LimitBroken, {}),
        ):
            self.refuses(console, error_class, fields, command)
        console = Console(" ".join(["0/0"] * 60))
        self.refuses(console, TooMany, {"limit": 60}, "extend 0 0")
        self.refuses(console, Impossible, {"word": "arrivals", "tick": 59}, "learn 59 59")


class AnswersTest(ConsoleCase):
    def test_within(self):
        self.answers(Console(EXAMPLE), ("within 2 2", "0 to 1"), ("within 2 3", "1"), ("within 0 3", "3"),
                     ("within 0 0", "0"))
        console = Console("500/0 400/600 0/99")
        self.answers(console, ("within 1 1", "100 to 400"), ("within 0 2", "699"))

    def test_long(self):
        self.answers(Console(EXAMPLE), ("long 1", "2 to 3"), ("long 3", "0 to 1"), ("long 4", "0"), ("long 60", "0"))

    def test_leave(self):
        self.answers(Console(EXAMPLE), ("leave 0", "1 2 3"), ("leave 1", "none"), ("leave 2", "2 3"))
        self.answers(Console("1/0"), ("leave 0", "1"))
        self.answers(Console("2/1"), ("leave 0", "0 1"))

    def test_ways_are_those_of_the_other_people(self):
        for counts in small_counts(2, 3):
            console = Console(str(counts))
            self.answers(console, ("ways", str(len(all_ways(counts)))))
            for stay in ((0, 0), (0, 1), (1, 1)):
                if stay[1] in console.book.leave_ticks(stay[0]):
                    self.answers(console, (f"learn {stay[0]} {stay[1]}", "ok"),
                                 ("ways", str(len(all_ways(counts.without(stay))))), ("undo", "ok"))

    def test_errors_of_methods(self):
        console = Console(EXAMPLE)
        for command, error_class, fields in (
            ("within 4 9", InvalidTick, {"tick": 4}), ("within 0 4", InvalidTick, {"tick": 4}),
            ("within 2 1", InvalidTick, {"tick": 1}), ("within 9999 9998", InvalidTick, {"tick": 9999}),
            ("long 0", InvalidLength, {"length": 0}), ("long 61", InvalidLength, {"length": 61}),
            ("long 9999", InvalidLength, {"length": 9999}), ("leave 4", InvalidTick, {"tick": 4}),
            ("leave 9999", InvalidTick, {"tick": 9999}),
        ):
            self.refuses(console, error_class, fields, command)

    def test_answers_change_nothing(self):
        console = Console(EXAMPLE)
        console.execute("learn 2 2")
        before = state_of(console)
        for command in ("counts", "known", "log", "within 0 3", "long 1", "leave 0", "ways"):
            self.assertEqual(console.execute(command), console.execute(command))
            self.assertEqual(state_of(console), before)

    def test_a_book_changed_by_its_own_methods(self):
        console = Console(EXAMPLE)
        console.book.do_all(("learn", (2, 2)), ("extend", 7, 7))
        self.answers(console, ("known", "2-2"), ("counts", EXAMPLE + " 7/7"), ("log", "2"), ("leave 0", "1 3"))
        console.book.max_length = 3
        self.answers(console, ("log", "3"), ("undo", "ok"), ("undo", "ok"), ("counts", EXAMPLE))
        console.book.undo()
        self.refuses(console, NothingToUndo, {}, "undo")

    def test_answers_are_those_of_the_book(self):
        generator = random.Random(46)
        for counts in [*small_counts(2, 2), large_counts()]:
            console = Console(str(counts))
            book = Book(counts)
            for _ in range(6):
                arrived = generator.randrange(len(counts))
                lefts = [left for left in book.leave_ticks(arrived) if left < len(counts)]
                self.answers(console, (f"leave {arrived}", " ".join(map(str, book.leave_ticks(arrived))) or "none"))
                if lefts:
                    book.do(("learn", (arrived, lefts[-1])))
                    self.answers(console, (f"learn {arrived} {lefts[-1]}", "ok"))
                least, greatest = book.long_stays(1)
                answer = f"{least} to {greatest}" if least < greatest else f"{least}"
                self.answers(console, ("long 1", answer), ("ways", str(ways(book.others))),
                             ("known", " ".join(f"{a}-{b}" for a, b in book.known) or "none"))
            self.assertEqual(console.book, book)


class InvalidCommandTest(ConsoleCase):
    def test_no_strings(self):
        for wrong in (None, 1, True, (), [], {}, b"undo", ("undo",), ["learn", 0, 0], ("learn", (0, 0)), object(), len):
            self.is_no_command(Console(EXAMPLE), wrong)

    def test_base_class(self):
        with self.assertRaises(CountError):
            Console(EXAMPLE).execute("")

    def test_spaces(self):
        console = Console(EXAMPLE)
        for word, number in NUMBERS.items():
            command = " ".join([word] + ["1"] * number)
            for wrong in (" " + command, command + " ", command.replace(" ", "  "), command.replace(" ", "\t"),
                          command.replace(" ", "\n"), command + "\n", "\t" + command, command.replace(" ", ",")):
                if wrong != command:
                    self.is_no_command(console, wrong)
        for wrong in ("", " ", "  ", "\n"):
            self.is_no_command(console, wrong)

    def test_number_of_words(self):
        console = Console(EXAMPLE)
        for word, number in NUMBERS.items():
            for other in range(6):
                if other != number:
                    self.is_no_command(console, " ".join([word] + ["1"] * other))

    def test_words(self):
        console = Console(EXAMPLE)
        for word in ("do", "Learn", "LEARN", "learns", "lear", "none", "ok", "-", "0", "known?", "table", "max_length"):
            for number in range(4):
                self.is_no_command(console, " ".join([word] + ["0"] * number))

    def test_numbers(self):
        console = Console(EXAMPLE)
        for word, number in NUMBERS.items():
            for place in range(number):
                for wrong in ("00", "01", "007", "+1", "-1", "-0", "--", "10000", "99999", "1.0", "1e1", "a", "None",
                              "", "0x1", "1_0", "0-0", "(0", "True", "nOne", "9" * 4000, "none1"):
                    words = [word] + ["0"] * number
                    words[place + 1] = wrong
                    self.is_no_command(console, " ".join(words))

    def test_none_stands_at_its_places_only(self):
        console = Console(EXAMPLE)
        for word, number in NUMBERS.items():
            for parts in product(("0", "-", "none"), repeat=number):
                command = " ".join((word, *parts))
                allowed = [("0",)] * number
                if word == "correct":
                    allowed[1:] = [("0", "-")] * 2
                if word == "limit":
                    allowed = [("0", "none")]
                if not all(part in texts for part, texts in zip(parts, allowed)):
                    self.is_no_command(console, command)

    def test_the_command_is_checked_before_the_deed(self):
        console = Console(EXAMPLE)
        for wrong in ("learn 9 -", "correct 9 01 0", "undo 0", "limit 61 0", "within 9 08", "long -", "leave 04"):
            self.is_no_command(console, wrong)

    def test_the_greatest_number(self):
        self.refuses(Console(EXAMPLE), InvalidTick, {"tick": 9999}, "leave 9999")
        self.is_no_command(Console(EXAMPLE), "leave 10000")

    def test_digits_of_other_scripts(self):
        for wrong in ("leave \u0661", "leave \u00b2", "leave \uff11"):
            self.is_no_command(Console(EXAMPLE), wrong)
