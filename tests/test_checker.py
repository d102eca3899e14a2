"""Promises 1, 2, 3 and 42: the checker, compared with the words of the document and with all histories."""

import random
from itertools import combinations, product

from staycounts.certificates import certify_known, certify_limits, certify_long, certify_within
from staycounts.checker import accepts
from staycounts.counts import Counts
from tests.slow_checker import is_true, slow_accepts
from tests.support import ErrorCase, example, large_counts, random_counts, slow_histories, small_counts, stays_of_size

A, D = (2, 0, 1, 0), (0, 1, 1, 1)
ELDEST = ((0, 1, 1), (0, 2, 1), (2, 3, 1))
YOUNGEST = ((0, 1, 1), (0, 3, 1), (2, 2, 1))
WORDS = ("possible", "impossible", "within", "kept", "broken", "long", "arrivals", "departures", "present", "late",
         "early", "", "Possible", "within ")
OTHERS = (None, True, False, -1, 0, 1, 60, 61, 10 ** 50, "", "1", b"1", (), (1,), [], [1], {}, {1: 1}, object(), len)

# For each form of a claim, claims with certificates that are accepted.
RIGHT = (
    (("possible", A, D, ()), ELDEST),
    (("possible", A, D, ((2, 2),)), YOUNGEST),
    (("possible", A, D, ((0, 3), (0, 1))), YOUNGEST),
    (("possible", (3, 0), (1, 1), ((0, 2), (0, 1), (0, 0))), ((0, 0, 1), (0, 1, 1), (0, 2, 1))),
    (("possible", (3, 0), (2, 0), ((0, 0), (0, 0))), ((0, 0, 2), (0, 2, 1))),
    (("impossible", A, D, ((0, 2), (0, 3))), ("present", 1)),
    (("impossible", A, D, ((1, 1),)), ("arrivals", 1)),
    (("impossible", A, D, ((2, 2), (0, 2))), ("departures", 2)),
    (("within", A, D, 2, 2, 0, 1), (ELDEST, YOUNGEST, 2)),
    (("within", A, D, 2, 3, 1, 1), (ELDEST, YOUNGEST, 4)),
    (("within", A, D, 0, 3, 3, 3), (ELDEST, ELDEST, 0)),
    (("kept", A, D, 0, 2), ELDEST),
    (("kept", A, D, 1, 2), ELDEST),
    (("kept", (2, 0), (0, 1), 1, 2), ((0, 1, 1), (0, 2, 1))),
    (("broken", A, D, 0, 1), ("late", 2)),
    (("broken", A, D, 2, 60), ("early", 1)),
    (("broken", A, D, 2, 60), ("early", 3)),
    (("long", A, D, 3, 0, 1), (ELDEST, YOUNGEST, ((), (3,), ()), ((1, 2, 3), (0, 1, 2), ()))),
    (("long", A, D, 4, 0, 0), (ELDEST, YOUNGEST, ((), (), ()), ((), (0, 1, 2, 3), ()))),
)


def variants(value):
    """Yield values with one part put otherwise, at every depth."""
    if isinstance(value, tuple):
        for index, part in enumerate(value):
            for other in variants(part):
                yield (*value[:index], other, *value[index + 1:])
            yield (*value[:index], *value[index + 1:])
            yield (*value[:index], part, *value[index:])
        yield from (list(value), value[::-1], (value,), (*value, None), (*value, 0), (*value, ()), value + value, None)
    elif isinstance(value, str):
        yield from (word for word in WORDS if word != value)
        yield from (value.encode(), (value,), None, 1, value + " ")
    else:
        yield from (value + 1, value - 1, -value - 1, bool(value), str(value), (value,), [value], None, 10 ** 50)


class ExamplesTest(ErrorCase):
    def test_example(self):
        claim = ("impossible", (2, 0, 1, 0), (0, 1, 1, 1), ((0, 2), (0, 3)))
        for certificate, expected in ((("present", 1), True), (("present", 2), False), (None, False)):
            self.same(accepts(claim, certificate), expected)

    def test_right_certificates(self):
        for claim, certificate in RIGHT:
            self.same(accepts(claim, certificate), True)
            self.same(accepts(certificate=certificate, claim=claim), True)
            self.same(slow_accepts(claim, certificate), True)
            self.same(is_true(claim), True)

    def test_each_form_occurs(self):
        self.assertEqual({claim[0] for claim, _ in RIGHT}, set(WORDS[:6]))


class VariantsTest(ErrorCase):
    """One part put otherwise: the answer is that of the words of the document."""

    def test_variants_of_certificates(self):
        for claim, certificate in RIGHT:
            for other in variants(certificate):
                self.agrees(claim, other)

    def test_variants_of_claims(self):
        for claim, certificate in RIGHT:
            for other in variants(claim):
                self.agrees(other, certificate)

    def test_claims_with_certificates_of_others(self):
        for claim, _ in RIGHT:
            for _, certificate in RIGHT:
                self.agrees(claim, certificate)

    def test_variants_of_both(self):
        generator = random.Random(42)
        for claim, certificate in RIGHT:
            for other in generator.sample(list(variants(claim)), 30):
                for proof in generator.sample(list(variants(certificate)), 30):
                    self.agrees(other, proof)

    def test_most_variants_are_refused(self):
        for claim, certificate in RIGHT:
            answers = [accepts(claim, other) for other in variants(certificate)]
            self.assertLess(answers.count(True), len(answers) // 4)

    def agrees(self, claim, certificate):
        expected = slow_accepts(claim, certificate)
        self.same(accepts(claim, certificate), expected)
        if expected:
            self.assertTrue(is_true(claim), claim)


class AnyValueTest(ErrorCase):
    def test_values_of_all_kinds(self):
        for claim, certificate in RIGHT:
            for other in (*OTHERS, example(), Counts):
                self.same(accepts(other, certificate), False)
                self.same(accepts(claim, other), slow_accepts(claim, other))
                for index in range(len(claim)):
                    changed = (*claim[:index], other, *claim[index + 1:])
                    self.same(accepts(changed, certificate), slow_accepts(changed, certificate))

    def test_words_with_too_few_elements(self):
        for word in WORDS:
            for size in range(8):
                for other in OTHERS:
                    self.same(accepts((word,) * min(size, 1) + (other,) * (size - 1), ()), False)

    def test_values_that_equal_everything(self):
        class Same:
            def __eq__(self, other):
                return True

            def __hash__(self):
                return 0

        same = Same()
        for claim, certificate in RIGHT:
            self.same(accepts(same, certificate), False)
            self.same(accepts(claim, same), False)
            for index in range(len(claim)):
                self.same(accepts((*claim[:index], same, *claim[index + 1:]), certificate), False)
            for index in range(len(certificate)):
                self.same(accepts(claim, (*certificate[:index], same, *certificate[index + 1:])), False)

    def test_true_is_not_one(self):
        self.same(accepts(("possible", (True,), (1,), ()), ((0, 0, 1),)), False)
        self.same(accepts(("possible", (1,), (1,), ((0, False),)), ((0, 0, 1),)), False)
        self.same(accepts(("possible", (1,), (1,), ()), ((0, 0, True),)), False)
        self.same(accepts(("impossible", A, D, ((1, 1),)), ("arrivals", True)), False)
        self.same(accepts(("within", A, D, 2, 2, False, 1), (ELDEST, YOUNGEST, 2)), False)
        self.same(accepts(("within", A, D, 2, 2, 0, True), (ELDEST, YOUNGEST, 2)), False)
        self.same(accepts(("within", A, D, False, 3, 3, 3), (ELDEST, ELDEST, 0)), False)
        self.same(accepts(("within", A, D, 0, 3, 3, 3), (ELDEST, ELDEST, False)), False)
        self.same(accepts(("kept", A, D, True, 2), ELDEST), False)
        self.same(accepts(("broken", A, D, 0, True), ("late", 2)), False)
        self.same(accepts(("broken", A, D, 2, 60), ("early", True)), False)
        self.same(accepts(("long", (1, 0), (0, 1), True, 1, 1), ((((0, 1, 1),),) * 2 + (((), (1,), ()), ((), (), ())))),
                  False)
        ticks = (((), (3,), ()), ((True, 2, 3), (0, 1, 2), ()))
        self.same(accepts(("long", A, D, 3, 0, 1), (ELDEST, YOUNGEST, *ticks)), False)

    def test_nested_values(self):
        deep = ()
        for _ in range(30):
            deep = (deep,)
        for claim, certificate in RIGHT:
            self.same(accepts(claim, deep), False)
            self.same(accepts((*claim[:3], deep), certificate), False)

    def test_calls_change_nothing(self):
        for claim, certificate in RIGHT:
            lists = [list(claim), list(certificate)]
            self.same(accepts(*lists), False)
            self.assertEqual(lists, [list(claim), list(certificate)])


class TruthTest(ErrorCase):
    """Claims over small counts: what is accepted is true, and false claims are refused with all certificates."""

    def is_proved(self, claim, certificates):
        """Check that a claim is true if some of the certificates is accepted, and that this is the right answer."""
        found = [accepts(claim, certificate) for certificate in certificates]
        self.assertEqual(found, [slow_accepts(claim, certificate) for certificate in certificates])
        self.assertEqual(any(found), is_true(claim), claim)

    def test_known_stays(self):
        for counts in [*small_counts(1, 2), *small_counts(2, 2)]:
            ticks = range(len(counts))
            words = [(word, tick) for word in ("arrivals", "departures", "present") for tick in ticks]
            for size in range(3):
                for stays in product(stays_of_size(len(counts)), repeat=size):
                    values = (counts.arrivals, counts.departures, stays)
                    self.is_proved(("possible", *values), slow_histories(counts))
                    self.is_proved(("impossible", *values), words)

    def test_within(self):
        for counts in [*small_counts(1, 2), *small_counts(2, 2), *small_counts(3, 2)]:
            found = slow_histories(counts)
            for first, last in [(a, b) for a in range(len(counts)) for b in range(a, len(counts))]:
                certificates = [*product(found, found, range(first, last + 2))]
                for low, high in product(range(4), repeat=2):
                    claim = ("within", counts.arrivals, counts.departures, first, last, low, high)
                    self.is_proved(claim, certificates)

    def test_limits(self):
        for counts in [*small_counts(1, 2), *small_counts(2, 2), *small_counts(3, 2)]:
            words = [(word, k) for word in ("late", "early") for k in range(4)]
            for least, most in product((*range(len(counts) + 2), 60), repeat=2):
                values = (counts.arrivals, counts.departures, least, most)
                self.is_proved(("kept", *values), slow_histories(counts))
                self.is_proved(("broken", *values), words)

    def test_long_stays(self):
        generator = random.Random(44)
        ticks = [part for size in range(3) for part in combinations(range(2), size)]
        triples = list(product(ticks, repeat=3))
        for counts in small_counts(2, 2):
            found = slow_histories(counts)
            for length, low, high in product((1, 2), range(3), range(3)):
                # The barriers of the package stand beside all others, because few have the right sum.
                proof = certify_long(counts, length)[1]
                some = [(generator.choice(found), generator.choice(found), generator.choice((*triples, proof[2])),
                         generator.choice((*triples, proof[3]))) for _ in range(60)]
                claim = ("long", counts.arrivals, counts.departures, length, low, high)
                self.is_proved(claim, [proof, *product(found, found, [proof[2]], [proof[3]]), *some])

    def test_false_claims_about_long_stays(self):
        for counts in [*small_counts(2, 2), *small_counts(3, 2)]:
            for length in (1, 2, 3):
                claim, certificate = certify_long(counts, length)
                for low, high in product(range(4), repeat=2):
                    other = (*claim[:4], low, high)
                    for fewest, most in product(slow_histories(counts), repeat=2):
                        proof = (fewest, most, *certificate[2:])
                        expected = slow_accepts(other, proof)
                        self.same(accepts(other, proof), expected)
                        if expected:
                            self.assertTrue(is_true(other))


class EdgesTest(ErrorCase):
    def test_one_tick(self):
        one = ((0, 0, 1), (0, 1, 1))
        self.same(accepts(("possible", (2,), (1,), ((0, 0), (0, 1))), one), True)
        self.same(accepts(("within", (2,), (1,), 0, 0, 1, 1), (one, one, 0)), True)
        self.same(accepts(("within", (2,), (1,), 0, 0, 1, 1), (one, one, 1)), False)
        self.same(accepts(("broken", (2,), (1,), 0, 0), ("late", 2)), True)
        self.same(accepts(("kept", (2,), (1,), 0, 1), one), True)
        self.same(accepts(("long", (2,), (1,), 1, 0, 0), (one, one, ((), (), ()), ((), (0,), ()))), True)

    def test_nobody_arrives(self):
        for ticks in (1, 60):
            zeros = (0,) * ticks
            self.same(accepts(("possible", zeros, zeros, ()), ()), True)
            self.same(accepts(("impossible", zeros, zeros, ((0, ticks),)), ("arrivals", 0)), True)
            self.same(accepts(("impossible", zeros, zeros, ((0, ticks),)), ("present", ticks - 1)), True)
            self.same(accepts(("within", zeros, zeros, 0, ticks - 1, 0, 0), ((), (), ticks)), True)
            self.same(accepts(("kept", zeros, zeros, 60, 0), ()), True)
            self.same(accepts(("broken", zeros, zeros, 60, 0), ("late", 1)), False)
            self.same(accepts(("broken", zeros, zeros, 60, 0), ("early", 1)), False)
            every = tuple(range(ticks))
            proof = ((), (), ((), (), every), (every, (), ()))
            self.same(accepts(("long", zeros, zeros, 1, 0, 0), proof), True)

    def test_sixty_ticks_and_999_people(self):
        come, go = (999,) + (0,) * 59, (0,) * 59 + (998,)
        only = ((0, 59, 998), (0, 60, 1))
        self.same(accepts(("possible", come, go, ((0, 60), *[(0, 59)] * 998)), only), True)
        self.same(accepts(("possible", come, go, ((0, 60), (0, 60))), only), False)
        self.same(accepts(("within", come, go, 0, 59, 998, 998), (only, only, 0)), True)
        self.same(accepts(("within", come, go, 0, 59, 998, 998), (only, only, 60)), False)
        self.same(accepts(("within", come, go, 59, 59, 0, 0), (only, only, 60)), True)
        self.same(accepts(("kept", come, go, 59, 60), only), True)
        self.same(accepts(("kept", come, go, 60, 60), only), False)
        self.same(accepts(("broken", come, go, 60, 60), ("early", 1)), True)
        self.same(accepts(("broken", come, go, 0, 59), ("late", 999)), True)
        self.same(accepts(("broken", come, go, 0, 59), ("late", 998)), False)
        long_proof = (only, only, ((), (59,), ()), (tuple(range(1, 60)), (), ()))
        self.same(accepts(("long", come, go, 59, 998, 998), long_proof), False)
        long_proof = (only, only, ((), (59,), ()), (tuple(range(1, 60)), (0,) + tuple(range(1, 59)), ()))
        self.same(accepts(("long", come, go, 59, 998, 998), long_proof), True)

    def test_61_ticks_and_1000_people(self):
        self.same(accepts(("possible", (0,) * 60, (0,) * 60, ()), ()), True)
        self.same(accepts(("possible", (0,) * 61, (0,) * 61, ()), ()), False)
        self.same(accepts(("possible", (0,), (0, 0), ()), ()), False)
        self.same(accepts(("possible", (), (), ()), ()), False)
        self.same(accepts(("possible", (1000,), (0,), ()), ((0, 1, 1000),)), False)
        self.same(accepts(("possible", (999, 1), (0, 0), ()), ((0, 2, 999), (1, 2, 1))), False)
        self.same(accepts(("possible", (0, 1), (1, 0), ()), ()), False)

    def test_limits_and_lengths(self):
        one = ((0, 0, 1),)
        for least, most, expected in ((0, 0, True), (0, 60, True), (0, 61, False), (-1, 60, False), (0, -1, False)):
            self.same(accepts(("kept", (1,), (1,), least, most), one), expected)
        for least, most, expected in ((1, 60, True), (60, 60, True), (61, 60, False), (1, 61, False), (0, 60, False)):
            self.same(accepts(("broken", (1,), (1,), least, most), ("early", 1)), expected)
        for length, expected in ((0, False), (1, True), (60, True), (61, False)):
            proof = (one, one, ((), (), ()), ((0,), (), ()))
            self.same(accepts(("long", (1,), (1,), length, 0, 0), proof), expected)
        # All ended stays have at least the length 0, but this is not a length that a claim can have.
        proof = (one, one, ((), (0,), ()), ((), (), ()))
        self.same(accepts(("long", (1,), (1,), 0, 1, 1), proof), False)

    def test_ranges(self):
        for first, last, expected in ((0, 1, True), (1, 1, True), (-1, 1, False), (0, 2, False), (2, 2, False),
                                      (1, 0, False), (-1, -1, False), (0, 10 ** 50, False)):
            for place in (first, last, last + 1):
                claim = ("within", (0, 0), (0, 0), first, last, 0, 0)
                self.same(accepts(claim, ((), (), place)), expected)

    def test_a_person_whom_nobody_is(self):
        for k in (0, -1, 4, 999, 1000, 10 ** 50):
            for word in ("late", "early"):
                self.same(accepts(("broken", A, D, 60, 0), (word, k)), False)
        # Three people arrive, but only two leave.
        values = ((3, 0), (1, 1), 60, 0)
        self.assertEqual([accepts(("broken", *values), ("early", k)) for k in (1, 2, 3)], [True, True, False])
        self.assertEqual([accepts(("broken", *values), ("late", k)) for k in (1, 2, 3)], [False, True, True])

    def test_a_cut_behind_the_last_tick(self):
        self.same(accepts(("within", A, D, 2, 3, 1, 1), (ELDEST, YOUNGEST, 4)), True)
        for place in (1, 2, 3, 5):
            self.same(accepts(("within", A, D, 2, 3, 1, 1), (ELDEST, YOUNGEST, place)), False)

    def test_ticks_that_are_not_ascending(self):
        # Nobody leaves at tick 0 or is present after tick 3, so such a tick makes no sum wrong.
        for short, expected in (
            (((1, 2, 3), (0, 1, 2), ()), True), (((1, 2, 3), (2, 1, 0), ()), False),
            (((3, 2, 1), (0, 1, 2), ()), False), (((1, 2, 3), (0, 0, 1, 2), ()), False),
            (((1, 1, 2, 3), (0, 1, 2), ()), False),
            (((1, 2, 3), (0, 1, 2), (3,)), True), (((1, 2, 3), (0, 1, 2), (3, 3)), False),
            (((1, 2, 3), (0, 1, 2), (4,)), False), (((1, 2, 3), (0, 1, 2), (-1,)), False),
            (((2, 3), (0, 1, 2), ()), False), (((1, 2, 3), (1, 2), ()), False), (((1, 2), (0, 1, 2), ()), False),
        ):
            proof = (ELDEST, YOUNGEST, ((), (3,), ()), short)
            self.same(accepts(("long", A, D, 3, 0, 1), proof), expected)

    def test_swapped_histories(self):
        self.same(accepts(("within", A, D, 2, 2, 0, 1), (YOUNGEST, ELDEST, 2)), False)
        proof = (YOUNGEST, ELDEST, ((), (3,), ()), ((1, 2, 3), (0, 1, 2), ()))
        self.same(accepts(("long", A, D, 3, 0, 1), proof), False)

    def test_certificates_of_large_counts_with_one_part_put_otherwise(self):
        generator = random.Random(43)
        for counts in (large_counts(), random_counts(generator, 60, 999)):
            for claim, certificate in (certify_known(counts, (0, 40), (0, 40)), certify_within(counts, 10, 40),
                                       certify_limits(counts, most=3), certify_limits(counts, least=2),
                                       certify_long(counts, 20)):
                self.same(accepts(claim, certificate), True)
                for other in generator.sample(list(variants(certificate)), 8):
                    self.same(accepts(claim, other), slow_accepts(claim, other))
                for other in generator.sample(list(variants(claim)), 8):
                    self.same(accepts(other, certificate), slow_accepts(other, certificate))
