"""Promises 1, 2, 3, 10 and 43: certificates, which the checker accepts for the true one of two claims."""

import random
from itertools import combinations_with_replacement, product

from staycounts.certificates import certify_known, certify_limits, certify_long, certify_within
from staycounts.checker import accepts
from staycounts.counts import Counts
from staycounts.errors import CountError, InvalidLength, InvalidStay, InvalidTick, NotCounts
from staycounts.lengths import breach, long_stays
from staycounts.ranges import within
from tests.slow_checker import is_true, slow_accepts
from tests.support import (NO_COUNTS, NO_INTEGERS, NO_STAYS, ErrorCase, example, large_counts, random_counts,
                           small_counts, stays_of_size)

ALL = (certify_known, lambda counts: certify_within(counts, 0, 0), certify_limits,
       lambda counts: certify_long(counts, 1))


def some_counts():
    """Return counts that have few histories."""
    generator = random.Random(43)
    some = [random_counts(generator, ticks, 6) for ticks in (4, 5, 6) for _ in range(12)]
    return [*small_counts(1, 3), *small_counts(2, 3), *small_counts(3, 3), *some]


def many_counts():
    """Return counts that have too many histories."""
    generator = random.Random(44)
    return [large_counts(), Counts.quiet(60), Counts((999,) + (0,) * 59, (0,) * 59 + (998,)),
            *[random_counts(generator, ticks, people) for ticks, people in ((12, 40), (60, 100), (60, 999))]]


class CertificateCase(ErrorCase):
    def is_certified(self, pair, claim):
        """Check that a pair is a claim with a certificate that the checker accepts."""
        self.same(type(pair), tuple)
        self.assertEqual(len(pair), 2)
        self.same(pair[0], claim)
        self.same(accepts(*pair), True)
        self.same(slow_accepts(*pair), True)

    def is_certified_and_true(self, pair, claim):
        self.is_certified(pair, claim)
        self.same(is_true(claim), True)


class ExamplesTest(CertificateCase):
    def test_within_and_limits(self):
        found = [certify_within(example(), 2, 2)[0], certify_limits(example(), most=1)]
        self.assertEqual(found, [("within", (2, 0, 1, 0), (0, 1, 1, 1), 2, 2, 0, 1),
                                 (("broken", (2, 0, 1, 0), (0, 1, 1, 1), 0, 1), ("late", 2))])

    def test_long(self):
        claim, certificate = certify_long(Counts((2, 0, 1, 0), (0, 1, 1, 1)), 3)
        self.assertEqual([claim, accepts(claim, certificate)], [("long", (2, 0, 1, 0), (0, 1, 1, 1), 3, 0, 1), True])

    def test_by_name(self):
        counts = example()
        self.assertEqual(certify_known(counts=counts), certify_known(counts))
        self.assertEqual(certify_within(last=3, counts=counts, first=2), certify_within(counts, 2, 3))
        self.assertEqual(certify_limits(most=2, counts=counts, least=1), certify_limits(counts, least=1, most=2))
        self.assertEqual(certify_long(length=3, counts=counts), certify_long(counts, 3))


class KnownTest(CertificateCase):
    def test_small_counts(self):
        for counts in [*small_counts(2, 3), *small_counts(3, 2)]:
            for size in range(3):
                for stays in combinations_with_replacement(stays_of_size(len(counts)), size):
                    pair = certify_known(counts, *stays)
                    self.assertIn(pair[0][0], ("possible", "impossible"))
                    self.is_certified_and_true(pair, (pair[0][0], counts.arrivals, counts.departures, stays))

    def test_the_stays_are_in_the_order_in_which_they_were_passed(self):
        counts = example()
        for stays in (((2, 2), (0, 1)), ((0, 1), (2, 2)), ((0, 3), (0, 1)), ((0, 3), (0, 2)), ((0, 3), (0, 3), (0, 1))):
            self.assertEqual(certify_known(counts, *stays)[0][1:], (counts.arrivals, counts.departures, stays))

    def test_both_claims(self):
        self.assertEqual(certify_known(example(), (0, 2), (0, 3)),
                         (("impossible", (2, 0, 1, 0), (0, 1, 1, 1), ((0, 2), (0, 3))), ("present", 1)))
        self.assertEqual(certify_known(example(), (2, 2)),
                         (("possible", (2, 0, 1, 0), (0, 1, 1, 1), ((2, 2),)), ((0, 1, 1), (0, 3, 1), (2, 2, 1))))

    def test_many_counts(self):
        generator = random.Random(45)
        for counts in many_counts():
            ticks = len(counts)
            for size in (0, 1, 5, 40):
                stays = tuple((a, generator.randint(a, ticks)) for a in generator.choices(range(ticks), k=size))
                pair = certify_known(counts, *stays)
                self.is_certified(pair, (pair[0][0], counts.arrivals, counts.departures, stays))


class WithinTest(CertificateCase):
    def test_small_counts(self):
        for counts in some_counts():
            for first, last in [(a, b) for a in range(len(counts)) for b in range(a, len(counts))]:
                claim = ("within", counts.arrivals, counts.departures, first, last, *within(counts, first, last))
                self.is_certified_and_true(certify_within(counts, first, last), claim)

    def test_many_counts(self):
        for counts in many_counts():
            end = len(counts) - 1
            for first, last in ((0, 0), (0, end), (end, end), (3, 9), (0, end - 1), (1, end)):
                claim = ("within", counts.arrivals, counts.departures, first, last, *within(counts, first, last))
                self.is_certified(certify_within(counts, first, last), claim)

    def test_a_cut_behind_the_last_tick_of_the_range(self):
        claim, certificate = certify_within(example(), 2, 3)
        self.assertEqual([claim[5:], certificate[2]], [(1, 1), 4])


class LimitsTest(CertificateCase):
    def test_small_counts(self):
        for counts in some_counts():
            for least, most in product((*range(len(counts) + 2), 60), repeat=2):
                word = "kept" if breach(counts, least=least, most=most) is None else "broken"
                claim = (word, counts.arrivals, counts.departures, least, most)
                self.is_certified_and_true(certify_limits(counts, least=least, most=most), claim)

    def test_many_counts(self):
        for counts in many_counts():
            for least, most in product((0, 1, 2, 5, 30, 59, 60), repeat=2):
                word = "kept" if breach(counts, least=least, most=most) is None else "broken"
                claim = (word, counts.arrivals, counts.departures, least, most)
                self.is_certified(certify_limits(counts, least=least, most=most), claim)

    def test_defaults(self):
        for counts in [*some_counts(), *many_counts()]:
            self.is_certified(certify_limits(counts), ("kept", counts.arrivals, counts.departures, 0, 60))
            self.assertEqual(certify_limits(counts, least=2), certify_limits(counts, least=2, most=60))
            self.assertEqual(certify_limits(counts, most=2), certify_limits(counts, least=0, most=2))

    def test_the_limits_are_passed_by_name_only(self):
        with self.assertRaises(TypeError):
            certify_limits(example(), 0, 2)


class LongTest(CertificateCase):
    def test_small_counts(self):
        for counts in some_counts():
            for length in (*range(1, len(counts) + 2), 60):
                claim = ("long", counts.arrivals, counts.departures, length, *long_stays(counts, length))
                self.is_certified_and_true(certify_long(counts, length), claim)

    def test_many_counts(self):
        for counts in many_counts():
            for length in (1, 2, 7, 30, 59, 60):
                claim = ("long", counts.arrivals, counts.departures, length, *long_stays(counts, length))
                self.is_certified(certify_long(counts, length), claim)


class ErrorsTest(ErrorCase):
    def test_no_counts(self):
        for call in ALL:
            for wrong in NO_COUNTS:
                self.fails(NotCounts, {"value": wrong}, call, wrong)
                self.fails(NotCounts, {"value": wrong}, call, counts=wrong)
        for wrong in NO_COUNTS:
            self.fails(NotCounts, {"value": wrong}, certify_known, wrong, None)
            self.fails(NotCounts, {"value": wrong}, certify_within, wrong, -1, -1)
            self.fails(NotCounts, {"value": wrong}, certify_limits, most=-1, least=-1, counts=wrong)
            self.fails(NotCounts, {"value": wrong}, certify_long, length=0, counts=wrong)
        with self.assertRaises(CountError):
            certify_known(None)

    def test_no_stays(self):
        for wrong in NO_STAYS:
            self.fails(InvalidStay, {"index": 0}, certify_known, example(), wrong)
            self.fails(InvalidStay, {"index": 2}, certify_known, example(), (1, 1), (1, 1), wrong, wrong)

    def test_wrong_ticks(self):
        for wrong in (-1, 4, 5, 10 ** 50, None, *NO_INTEGERS):
            self.fails(InvalidTick, {"tick": wrong}, certify_within, example(), wrong, 3)
            self.fails(InvalidTick, {"tick": wrong}, certify_within, example(), 0, wrong)
            self.fails(InvalidTick, {"tick": wrong}, certify_within, last=wrong, first=0, counts=example())
        self.fails(InvalidTick, {"tick": 0}, certify_within, example(), 1, 0)
        self.fails(InvalidTick, {"tick": -1}, certify_within, example(), -1, -2)

    def test_wrong_limits(self):
        for wrong in (-1, 61, 10 ** 50, None, *NO_INTEGERS):
            self.fails(InvalidLength, {"length": wrong}, certify_limits, example(), least=wrong)
            self.fails(InvalidLength, {"length": wrong}, certify_limits, example(), most=wrong)
            self.fails(InvalidLength, {"length": wrong}, certify_limits, example(), most=-7, least=wrong)

    def test_wrong_lengths(self):
        for wrong in (0, -1, 61, 10 ** 50, None, *NO_INTEGERS):
            self.fails(InvalidLength, {"length": wrong}, certify_long, example(), wrong)
            self.fails(InvalidLength, {"length": wrong}, certify_long, length=wrong, counts=Counts.quiet(1))

    def test_calls_change_nothing(self):
        counts = example()
        for call in ALL:
            self.assertEqual(call(counts), call(counts))
            self.assertEqual([counts, counts.present], [example(), (2, 1, 1, 0)])
