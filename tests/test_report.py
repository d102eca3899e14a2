"""Promises 3, 10 and 41: the table of counts."""

import random

from staycounts.counts import Counts
from staycounts.errors import CountError, NotCounts
from staycounts.report import table
from tests.support import NO_COUNTS, ErrorCase, example, large_counts, random_counts, small_counts

HEAD = "tick    in   out present"


def slow_table(counts, totals):
    """Return the table by the words of point 41, put together cell by cell."""
    present = 0
    rows = [("tick", "in", "out", "present")]
    for tick, (arriving, leaving) in enumerate(zip(counts.arrivals, counts.departures)):
        present += arriving - leaving
        rows.append((tick, arriving, leaving, present))
    if totals:
        rows.append(("all", sum(counts.arrivals), sum(counts.departures), present))
    return "\n".join("".join(str(cell).rjust(width) for cell, width in zip(row, (4, 6, 6, 8))) for row in rows)


class TableTest(ErrorCase):
    def test_example(self):
        rows = table(example(), totals=True).split("\n")
        self.assertEqual(rows[3:], ["   2     1     1       1", "   3     0     1       0", " all     3     3       0"])

    def test_whole_table(self):
        text = "\n".join([HEAD, "   0     2     0       2", "   1     0     1       1", "   2     1     1       1",
                          "   3     0     1       0"])
        self.same(table(example()), text)
        self.same(table(example(), totals=False), text)
        self.same(table(example(), totals=True), text + "\n all     3     3       0")

    def test_numbers_of_one_to_three_digits(self):
        counts = Counts((9, 90, 900), (0, 10, 989))
        self.same(table(counts, totals=True), "\n".join([
            HEAD, "   0     9     0       9", "   1    90    10      89", "   2   900   989       0",
            " all   999   999       0"]))
        counts = Counts((999,), (0,))
        self.same(table(counts, totals=True), "\n".join([HEAD, "   0   999     0     999", " all   999     0     999"]))

    def test_ticks_of_two_digits(self):
        rows = table(Counts.quiet(60)).split("\n")
        self.assertEqual([len(rows), rows[0]], [61, HEAD])
        self.assertEqual(rows[10:12] + rows[60:], ["   9     0     0       0", "  10     0     0       0",
                                                   "  59     0     0       0"])

    def test_agrees_with_the_words_of_the_document(self):
        generator = random.Random(41)
        some = [random_counts(generator, ticks, people) for ticks in (1, 9, 60) for people in (0, 50, 999)]
        for counts in [*small_counts(2, 3), large_counts(), *some]:
            for totals in (False, True):
                self.same(table(counts, totals=totals), slow_table(counts, totals))
                self.assertEqual({len(row) for row in table(counts, totals=totals).split("\n")}, {24})

    def test_by_name(self):
        self.assertEqual(table(totals=True, counts=example()), table(example(), totals=True))
        with self.assertRaises(TypeError):
            table(example(), True)

    def test_no_counts(self):
        for wrong in NO_COUNTS:
            self.fails(NotCounts, {"value": wrong}, table, wrong)
            self.fails(NotCounts, {"value": wrong}, table, wrong, totals=True)
            self.fails(NotCounts, {"value": wrong}, table, totals=None, counts=wrong)
        with self.assertRaises(CountError):
            table(None)

    def test_calls_change_nothing(self):
        counts = example()
        self.assertEqual(table(counts, totals=True), table(counts, totals=True))
        self.assertEqual([counts, counts.present], [example(), (2, 1, 1, 0)])
