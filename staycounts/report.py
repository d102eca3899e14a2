"""Reports: counts as a text for people to read."""

from staycounts.counts import check_counts


def table(counts, *, totals=False):
    """Return a text with a row for each tick, and with a last row for all ticks if `totals` is True."""
    check_counts(counts)
    present = counts.present
    rows = [_row("tick", "in", "out", "present")]
    for tick in range(len(counts)):
        rows.append(_row(tick, counts.arrivals[tick], counts.departures[tick], present[tick]))
    if totals:
        rows.append(_row("all", counts.people, sum(counts.departures), present[-1]))
    return "\n".join(rows)


def _row(tick, arriving, leaving, staying):
    """Return a row of the four columns."""
    return f"{tick:>4}{arriving:>6}{leaving:>6}{staying:>8}"
