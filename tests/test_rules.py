"""Promises 2, 3, 10, 23 and 24: the rules, compared with choosing person by person."""

import random
from collections import Counter

from staycounts.counts import Counts
from staycounts.errors import InvalidLength, InvalidName, NotCounts
from staycounts.histories import is_history
from staycounts.rules import EldestFirst, FewestLong, MostLong, Rule, YoungestFirst
from tests.support import NO_COUNTS, NO_INTEGERS, ErrorCase, example, large_counts, random_counts, small_counts

ELDEST = ((0, 1, 1), (0, 2, 1), (2, 3, 1))
YOUNGEST = ((0, 1, 1), (0, 3, 1), (2, 2, 1))
NO_LENGTHS = (0, -1, 61, 10 ** 50, None, *NO_INTEGERS)


def all_rules():
    """Return one rule of each class, and of the classes with a length those with different lengths."""
    plain = [Rule(), EldestFirst(), YoungestFirst()]
    return plain + [made(length) for made in (MostLong, FewestLong) for length in (1, 2, 3, 4, 59, 60)]


def eldest(present, tick, length):
    return min(present)


def youngest(present, tick, length):
    return max(present)


def most_long(present, tick, length):
    longer = [arrived for arrived in present if arrived <= tick - length]
    return max(longer or present)


def fewest_long(present, tick, length):
    shorter = [arrived for arrived in present if arrived > tick - length]
    return min(shorter or present)


def slow_history(counts, choose, length=None):
    """Return the history that results from choosing who leaves, person by person."""
    present = []
    found = Counter()
    for tick, (arriving, leaving) in enumerate(zip(counts.arrivals, counts.departures)):
        present += [tick] * arriving
        for _ in range(leaving):
            arrived = choose(present, tick, length)
            present.remove(arrived)
            found[(arrived, tick)] += 1
    found.update((arrived, len(counts)) for arrived in present)
    return tuple(sorted((*stay, number) for stay, number in found.items()))


class CallTest(ErrorCase):
    def test_examples(self):
        self.assertEqual([EldestFirst()(example()), YoungestFirst()(example())], [ELDEST, YOUNGEST])
        self.assertEqual([MostLong(3)(example()), FewestLong(3)(example())], [YOUNGEST, ELDEST])
        self.assertEqual(Rule()(example()), ELDEST)

    def test_small_counts(self):
        for counts in [*small_counts(1, 3), *small_counts(3, 4), *small_counts(4, 3)]:
            self.agrees(counts, (1, 2, 3, 4, 60))

    def test_random_counts(self):
        generator = random.Random(23)
        for _ in range(60):
            self.agrees(random_counts(generator, 12, 30), (1, 2, 3, 5, 8, 11, 12, 13))

    def test_the_largest_counts(self):
        self.agrees(large_counts(), (1, 2, 30, 59, 60))
        self.agrees(random_counts(random.Random(60), 60, 999), (1, 2, 30, 59, 60))

    def agrees(self, counts, lengths):
        for rule, choose in ((Rule(), eldest), (EldestFirst(), eldest), (YoungestFirst(), youngest)):
            self.assertEqual(rule(counts), slow_history(counts, choose))
        for length in lengths:
            self.assertEqual(MostLong(length)(counts), slow_history(counts, most_long, length))
            self.assertEqual(FewestLong(length)(counts), slow_history(counts, fewest_long, length))

    def test_a_length_is_reached_at_its_own_tick(self):
        counts = Counts((1, 1, 0), (0, 0, 1))
        self.assertEqual(MostLong(1)(counts), ((0, 3, 1), (1, 2, 1)))
        self.assertEqual(MostLong(2)(counts), ((0, 2, 1), (1, 3, 1)))
        self.assertEqual(MostLong(3)(counts), ((0, 3, 1), (1, 2, 1)))
        self.assertEqual(FewestLong(1)(counts), ((0, 2, 1), (1, 3, 1)))
        self.assertEqual(FewestLong(2)(counts), ((0, 3, 1), (1, 2, 1)))
        self.assertEqual(FewestLong(3)(counts), ((0, 2, 1), (1, 3, 1)))

    def test_edges(self):
        for rule in all_rules():
            self.assertEqual(rule(Counts.quiet(1)), ())
            self.assertEqual(rule(Counts.quiet(60)), ())
            self.assertEqual(rule(Counts((999,), (999,))), ((0, 0, 999),))
            self.assertEqual(rule(Counts((999,), (998,))), ((0, 0, 998), (0, 1, 1)))
            self.assertEqual(rule(Counts((2,) + (0,) * 59, (0,) * 59 + (1,))), ((0, 59, 1), (0, 60, 1)))

    def test_a_history_of_plain_values(self):
        for rule in all_rules():
            history = rule(large_counts())
            self.assertTrue(is_history(large_counts(), history))
            self.assertTrue(all(type(value) is int for triple in history for value in triple))

    def test_by_name_and_called_again(self):
        counts = example()
        for rule in all_rules():
            self.assertEqual(rule(counts=counts), rule(counts))
            self.assertEqual([rule(Counts((1,), (1,))), rule(counts)], [((0, 0, 1),), rule(counts)])
            self.assertEqual([counts, counts.present], [example(), (2, 1, 1, 0)])

    def test_no_counts(self):
        for rule in all_rules():
            for wrong in NO_COUNTS:
                self.fails(NotCounts, {"value": wrong}, rule, wrong)
                self.fails(NotCounts, {"value": wrong}, rule, counts=wrong)


class RuleTest(ErrorCase):
    def test_classes(self):
        self.assertEqual([EldestFirst.__bases__, YoungestFirst.__bases__], [(Rule,), (Rule,)])
        self.assertEqual([MostLong.__bases__, FewestLong.__bases__], [(YoungestFirst,), (EldestFirst,)])

    def test_names(self):
        found = [str(rule) for rule in (Rule(), EldestFirst(), YoungestFirst(), MostLong(3), FewestLong(60))]
        self.assertEqual(found, ["rule", "eldest", "youngest", "most long 3", "fewest long 60"])

    def test_length(self):
        for made in (MostLong, FewestLong):
            for length in (1, 2, 59, 60):
                self.same(made(length).length, length)
                self.same(made(length=length).length, length)

    def test_no_length(self):
        for rule in (Rule(), EldestFirst(), YoungestFirst()):
            self.assertFalse(hasattr(rule, "length"))
        for made in (Rule, EldestFirst, YoungestFirst):
            with self.assertRaises(TypeError):
                made(1)

    def test_wrong_lengths(self):
        for made in (MostLong, FewestLong):
            for wrong in NO_LENGTHS:
                self.fails(InvalidLength, {"length": wrong}, made, wrong)
                self.fails(InvalidLength, {"length": wrong}, made, length=wrong)

    def test_equality(self):
        for k, one in enumerate(all_rules()):
            for m, other in enumerate(all_rules()):
                self.same(one == other, k == m)
                self.same(one != other, k != m)
        self.same(MostLong(3) == MostLong(2), False)

    def test_no_value_of_another_class_is_equal(self):
        for rule in all_rules():
            for other in (None, str(rule), 1, 3, True, (), [rule], (rule,), example(), object(), type(rule)):
                self.same(rule == other, False)
                self.same(other == rule, False)
                self.same(rule != other, True)
                self.same(other != rule, True)


class NamedTest(ErrorCase):
    def test_example(self):
        self.assertEqual(Rule.named("fewest long", 4), FewestLong(4))
        self.assertEqual(str(Rule.named("youngest")), "youngest")

    def test_all_names(self):
        found = [Rule.named(name) for name in ("eldest", "youngest", "most long", "fewest long")]
        self.assertEqual(found, [EldestFirst(), YoungestFirst(), MostLong(1), FewestLong(1)])
        self.assertEqual([type(rule) for rule in found], [EldestFirst, YoungestFirst, MostLong, FewestLong])
        for length in (1, 2, 60):
            self.assertEqual(Rule.named("most long", length), MostLong(length))
            self.assertEqual(Rule.named("fewest long", length), FewestLong(length))

    def test_by_name(self):
        self.assertEqual(Rule.named(length=7, name="most long"), MostLong(7))
        self.assertEqual(Rule.named("fewest long", length=60), FewestLong(60))
        self.assertEqual(Rule.named(name="eldest"), EldestFirst())

    def test_the_length_is_not_looked_at(self):
        for wrong in NO_LENGTHS:
            self.assertEqual(Rule.named("eldest", wrong), EldestFirst())
            self.assertEqual(Rule.named("youngest", length=wrong), YoungestFirst())

    def test_wrong_names(self):
        for wrong in ("", "rule", "Eldest", "eldest ", " youngest", "most long 3", "most  long", "fewest", "long",
                      "mostlong", "most\nlong", b"eldest", ("eldest",), ["eldest"], {"eldest": 1}, None, 1, True,
                      EldestFirst(), EldestFirst, object()):
            self.fails(InvalidName, {"name": wrong}, Rule.named, wrong)
            self.fails(InvalidName, {"name": wrong}, Rule.named, wrong, 0)
            self.fails(InvalidName, {"name": wrong}, Rule.named, length=0, name=wrong)

    def test_wrong_lengths(self):
        for name in ("most long", "fewest long"):
            for wrong in NO_LENGTHS:
                self.fails(InvalidLength, {"length": wrong}, Rule.named, name, wrong)
                self.fails(InvalidLength, {"length": wrong}, Rule.named, length=wrong, name=name)

    def test_a_value_that_equals_everything_is_no_name(self):
        class Same:
            def __eq__(self, other):
                return True

        value = Same()
        with self.assertRaises(InvalidName) as caught:
            Rule.named(value)
        self.assertIs(caught.exception.name, value)
