"""Promises 3, 10 and 12 to 15: what Counts do with ticks, texts, other numbers and known stays."""

from staycounts.counts import Counts
from staycounts.errors import (
    Impossible, InvalidCounts, InvalidNumber, InvalidStay, InvalidText, InvalidTick, NotCounts, TooMany)
from staycounts.stays import obstacle
from tests.support import NO_INTEGERS, ErrorCase, example, small_counts, stays_of_size

NO_COUNTS = (None, 1, True, "1/0", (1, 0), ((1,), (0,)), [1], {}, Counts, object())


class TickTest(ErrorCase):
    def test_examples(self):
        self.assertEqual(example()[2], (1, 1))
        self.fails(InvalidTick, {"tick": -1}, lambda: Counts((2, 0), (0, 1))[-1])

    def test_each_tick(self):
        counts = Counts((2, 0, 1), (1, 0, 2))
        self.assertEqual([counts[0], counts[1], counts[2]], [(2, 1), (0, 0), (1, 2)])
        self.assertEqual(Counts((5,), (3,))[0], (5, 3))
        self.assertEqual(Counts((0,) * 59 + (1,), (0,) * 60)[59], (1, 0))

    def test_wrong_ticks(self):
        for wrong in (4, -1, -4, 10 ** 50, None, *NO_INTEGERS):
            self.fails(InvalidTick, {"tick": wrong}, lambda: example()[wrong])
        self.fails(InvalidTick, {"tick": slice(0, 2)}, lambda: example()[0:2])
        self.fails(InvalidTick, {"tick": (0, 1)}, lambda: example()[0, 1])


class SumTest(ErrorCase):
    def test_example(self):
        self.assertEqual(str(Counts((2,), (1,)) + Counts((0, 3), (0, 0))), "2/1 0/0 3/0")

    def test_the_counts_stay_as_they_are(self):
        first, second = example(), Counts((1,), (1,))
        total = first + second
        self.assertIs(type(total), Counts)
        self.assertEqual([first, second], [example(), Counts((1,), (1,))])
        self.assertEqual(total, Counts((2, 0, 1, 0, 1), (0, 1, 1, 1, 1)))
        self.assertEqual(second + first, Counts((1, 2, 0, 1, 0), (1, 0, 1, 1, 1)))

    def test_people_who_are_still_present(self):
        self.assertEqual((Counts((2,), (0,)) + Counts((1,), (1,))).present, (2, 2))

    def test_sixty_ticks_and_999_people(self):
        self.assertEqual(len(Counts.quiet(59) + Counts.quiet(1)), 60)
        self.assertEqual((Counts((998,), (998,)) + Counts((1,), (0,))).people, 999)

    def test_no_counts(self):
        for wrong in NO_COUNTS:
            self.fails(NotCounts, {"value": wrong}, lambda: example() + wrong)

    def test_too_many(self):
        self.fails(TooMany, {"limit": 60}, lambda: Counts.quiet(60) + Counts.quiet(1))
        self.fails(TooMany, {"limit": 60}, lambda: Counts.quiet(1) + Counts.quiet(60))
        self.fails(TooMany, {"limit": 999}, lambda: Counts((999,), (999,)) + Counts((1,), (0,)))

    def test_ticks_come_before_people(self):
        full = Counts((999,) + (0,) * 59, (0,) * 60)
        self.fails(TooMany, {"limit": 60}, lambda: full + full)


class ReadTest(ErrorCase):
    def test_examples(self):
        self.assertEqual(Counts.read("1/0 0/1"), Counts((1, 0), (0, 1)))
        self.fails(InvalidText, {"text": "01/0"}, Counts.read, "01/0")

    def test_static_method_by_position_and_by_name(self):
        self.assertIsInstance(Counts.__dict__["read"], staticmethod)
        self.assertEqual(Counts.read(text="2/0 0/1 1/1 0/1"), example())
        self.assertEqual(Counts.quiet(1).read("2/0 0/1 1/1 0/1"), example())

    def test_each_text_is_read_back(self):
        for counts in small_counts(3, 2):
            self.assertEqual(Counts.read(str(counts)), counts)
        for counts in (Counts.quiet(60), Counts((999,), (999,)), Counts((10, 100), (10, 100))):
            self.assertEqual(Counts.read(str(counts)), counts)

    def test_texts_in_another_form(self):
        for text in ("", " ", "/", "1", "1/", "/1", "1/0/0", "1//0", "1/0,0/1", "1-0", "a/b", "1/x", "1/0x0",
                     "1/0 ", " 1/0", "1/0  0/1", "1/0\n", "1/0\n0/1", "1/0\t0/1", "\t1/0", "1 /0", "1/ 0", "1 / 0"):
            self.fails(InvalidText, {"text": text}, Counts.read, text)

    def test_numbers_in_another_form(self):
        for text in ("01/0", "1/00", "00/0", "1/01", "001/0", "0001/0", "1/0 00/1", "+1/0", "1/+0", "-1/0", "1/-0",
                     "1_0/0", "1.0/0", "1/0.0", "0x1/0", "1e1/0"):
            self.fails(InvalidText, {"text": text}, Counts.read, text)

    def test_digits_that_are_not_0_to_9(self):
        for text in ("\u0661/0", "1/\u0660", "\u00b2/0", "\uff11/0", "9" * 5000 + "/0"):
            self.fails(InvalidText, {"text": text}, Counts.read, text)

    def test_texts_of_no_counts(self):
        for text in ("0/1", "1/2", "1/0 0/2", "1000/0", "999/1000", "999/0 1/0", "9" * 100 + "/0",
                     " ".join(["0/0"] * 61)):
            self.fails(InvalidText, {"text": text}, Counts.read, text)

    def test_no_strings(self):
        for wrong in (None, 1, True, b"1/0", ("1/0",), ["1/0"], {}, example(), object()):
            self.fails(InvalidText, {"text": wrong}, Counts.read, wrong)


class QuietTest(ErrorCase):
    def test_example(self):
        self.assertEqual(str(Counts.quiet(3)), "0/0 0/0 0/0")

    def test_class_method_by_position_and_by_name(self):
        self.assertIsInstance(Counts.__dict__["quiet"], classmethod)
        self.assertEqual(Counts.quiet(ticks=2), Counts((0, 0), (0, 0)))
        self.assertEqual(example().quiet(2), Counts((0, 0), (0, 0)))

    def test_1_and_60_ticks(self):
        self.assertEqual(Counts.quiet(1), Counts((0,), (0,)))
        self.assertEqual(Counts.quiet(60), Counts((0,) * 60, (0,) * 60))

    def test_wrong_numbers(self):
        for wrong in (0, 61, -1, 10 ** 50, None, *NO_INTEGERS):
            self.fails(InvalidNumber, {"number": wrong}, Counts.quiet, wrong)
        self.fails(InvalidNumber, {"number": 0}, Counts.quiet, ticks=0)


class ChangedTest(ErrorCase):
    def test_examples(self):
        self.assertEqual(str(example().changed(1, departures=0)), "2/0 0/0 1/1 0/1")
        self.fails(InvalidCounts, {"tick": 1}, example().changed, 0, arrivals=0)

    def test_by_name(self):
        self.assertEqual(example().changed(tick=2, arrivals=5, departures=3), Counts((2, 0, 5, 0), (0, 1, 3, 1)))
        self.assertEqual(example().changed(departures=3, tick=2, arrivals=5), Counts((2, 0, 5, 0), (0, 1, 3, 1)))
        with self.assertRaises(TypeError):
            example().changed(2, 5, 3)

    def test_none_leaves_the_number(self):
        self.assertEqual(example().changed(0), example())
        self.assertEqual(example().changed(3, arrivals=None, departures=None), example())
        self.assertEqual(example().changed(0, arrivals=4), Counts((4, 0, 1, 0), (0, 1, 1, 1)))
        self.assertEqual(example().changed(3, departures=0), Counts((2, 0, 1, 0), (0, 1, 1, 0)))

    def test_zero_is_not_none(self):
        self.assertEqual(Counts((1, 1), (0, 1)).changed(1, arrivals=0), Counts((1, 0), (0, 1)))
        self.assertEqual(Counts((1, 1), (1, 1)).changed(0, arrivals=0, departures=0), Counts((0, 1), (0, 1)))

    def test_the_counts_stay_as_they_are(self):
        counts = example()
        counts.changed(0, arrivals=9)
        self.fails(InvalidCounts, {"tick": 1}, counts.changed, 0, arrivals=0)
        self.assertEqual(counts, example())

    def test_wrong_ticks(self):
        for wrong in (4, -1, 10 ** 50, None, *NO_INTEGERS):
            self.fails(InvalidTick, {"tick": wrong}, example().changed, wrong)

    def test_wrong_numbers(self):
        for wrong in (-1, 1000, *NO_INTEGERS):
            self.fails(InvalidNumber, {"number": wrong}, example().changed, 0, arrivals=wrong)
            self.fails(InvalidNumber, {"number": wrong}, example().changed, 0, departures=wrong)

    def test_order_of_errors(self):
        counts = example()
        self.fails(InvalidTick, {"tick": 4}, counts.changed, departures=-2, arrivals=-1, tick=4)
        self.fails(InvalidNumber, {"number": -1}, counts.changed, 0, departures=-2, arrivals=-1)
        self.fails(InvalidNumber, {"number": -2}, counts.changed, 0, departures=-2, arrivals=0)
        self.fails(InvalidNumber, {"number": 1000}, counts.changed, 0, arrivals=999, departures=1000)

    def test_first_tick_that_is_not_valid(self):
        self.fails(InvalidCounts, {"tick": 2}, example().changed, 0, arrivals=999)
        self.fails(InvalidCounts, {"tick": 0}, example().changed, 0, departures=3)
        self.fails(InvalidCounts, {"tick": 3}, example().changed, 2, departures=2)
        self.fails(InvalidCounts, {"tick": 1}, Counts((998, 0), (0, 0)).changed, 1, arrivals=2)
        self.assertEqual(Counts((998, 0), (0, 0)).changed(1, arrivals=1).people, 999)


class ExtendedTest(ErrorCase):
    def test_example(self):
        self.assertEqual(str(Counts((2,), (0,)).extended(1, 3)), "2/0 1/3")

    def test_by_position_and_by_name(self):
        counts = Counts((2,), (0,))
        self.assertEqual(counts.extended(arrivals=0, departures=0), Counts((2, 0), (0, 0)))
        self.assertEqual(counts.extended(departures=1, arrivals=3), Counts((2, 3), (0, 1)))
        self.assertEqual(counts, Counts((2,), (0,)))

    def test_sixty_ticks_and_999_people(self):
        self.assertEqual(len(Counts.quiet(59).extended(0, 0)), 60)
        self.assertEqual(Counts((1,), (0,)).extended(998, 999).present, (1, 0))

    def test_wrong_numbers(self):
        for wrong in (-1, 1000, None, *NO_INTEGERS):
            self.fails(InvalidNumber, {"number": wrong}, example().extended, wrong, 0)
            self.fails(InvalidNumber, {"number": wrong}, example().extended, 0, wrong)

    def test_too_many_ticks(self):
        self.fails(TooMany, {"limit": 60}, Counts.quiet(60).extended, 0, 0)

    def test_not_valid_at_the_new_tick(self):
        self.fails(InvalidCounts, {"tick": 4}, example().extended, 0, 1)
        self.fails(InvalidCounts, {"tick": 4}, example().extended, 997, 0)
        self.fails(InvalidCounts, {"tick": 1}, Counts((1,), (1,)).extended, 999, 0)

    def test_order_of_errors(self):
        full = Counts.quiet(60)
        self.fails(InvalidNumber, {"number": "a"}, full.extended, departures="b", arrivals="a")
        self.fails(InvalidNumber, {"number": "b"}, full.extended, 0, "b")
        self.fails(InvalidNumber, {"number": None}, full.extended, None, -1)
        self.fails(TooMany, {"limit": 60}, full.extended, 0, 1)


class WithoutTest(ErrorCase):
    def test_examples(self):
        self.assertEqual(str(example().without((0, 3))), "1/0 0/1 1/1 0/0")
        self.assertEqual(example().without(), example())
        self.fails(Impossible, {"word": "present", "tick": 1}, example().without, (0, 2), (0, 3))

    def test_a_stay_of_length_0(self):
        self.assertEqual(str(example().without((2, 2))), "2/0 0/1 0/0 0/1")

    def test_a_stay_that_has_not_ended(self):
        self.assertEqual(Counts((2, 1), (1, 0)).without((0, 2), (1, 2)), Counts((1, 0), (1, 0)))

    def test_the_same_stay_several_times(self):
        counts = Counts((3, 0), (0, 3))
        self.assertEqual(counts.without((0, 1), (0, 1)), Counts((1, 0), (0, 1)))
        self.fails(Impossible, {"word": "arrivals", "tick": 0}, counts.without, *[(0, 1)] * 4)
        self.assertEqual(counts, Counts((3, 0), (0, 3)))

    def test_all_people(self):
        self.assertEqual(example().without((0, 1), (0, 3), (2, 2)), Counts.quiet(4))

    def test_no_stays(self):
        self.fails(InvalidStay, {"index": 0}, example().without, None)
        self.fails(InvalidStay, {"index": 1}, example().without, (0, 3), [0, 2], (9, 9))
        self.fails(InvalidStay, {"index": 2}, example().without, (0, 2), (0, 3), (0, True))

    def test_agrees_with_obstacle(self):
        stays = stays_of_size(3)
        pairs = [(first, second) for first in stays for second in stays]
        for counts in small_counts(3, 2):
            for known in pairs:
                found = obstacle(counts, *known)
                if found is None:
                    self.is_the_rest(counts, known)
                else:
                    self.fails(Impossible, {"word": found[0], "tick": found[1]}, counts.without, *known)

    def is_the_rest(self, counts, known):
        others = counts.without(*known)
        for tick in range(len(counts)):
            begin = sum(stay[0] == tick for stay in known)
            end = sum(stay[1] == tick for stay in known)
            self.assertEqual(others[tick], (counts.arrivals[tick] - begin, counts.departures[tick] - end))
