"""Covers: ticks that meet all long, or all short, ended stays and at which few people are counted.

A cover has three ascending tuples of ticks: it meets a stay that arrived at a
tick in the first one, left at a tick in the second one, or covers a tick in the
third one. In front of them stands their sum: how many people arrive, leave, and
are present at these ticks. So the least of several covers has the least sum.
"""

EMPTY = (0, (), (), ())


def least_long_cover(counts, length):
    """Return a cover with the least sum of all ended stays of at least a length."""
    # The ticks in the third tuple divide all ticks into blocks: a stay that covers
    # none of them lies within one block. There all departures at least `length`
    # ticks behind the first tick are needed, because arrivals never make the sum
    # less: in the place of a tick at the end of a block and the arrivals behind it,
    # the departures at the same ticks do, with the people present after them, and
    # their sum is the same.
    present = counts.present
    least = [EMPTY]
    for end in range(1, len(counts) + 1):
        covers = [_departures_cover(counts, length, end)]
        for start in range(1, end):
            border = (present[start - 1], (), (), (start - 1,))
            block = _departures_cover(counts, start + length, end)
            covers.append(_joined(_joined(least[start], border), block))
        least.append(min(covers))
    return least[len(counts)]


def least_short_cover(counts, length):
    """Return a cover with the least sum of all ended stays that are shorter than a length."""
    # If the arrivals at a tick are left out, all departures less than `length`
    # ticks later are needed. Each element has the tick behind the last arrivals
    # that were left out, the tick behind the departures that this needs, and a
    # least cover of the stays that begin before.
    ticks = len(counts)
    least = [(0, 0, EMPTY)]
    for left_out in range(ticks):
        end = min(left_out + length, ticks)
        covers = []
        for behind, done, cover in least:
            longer = _joined(cover, _arrivals_cover(counts, behind, left_out))
            covers.append(_joined(longer, _departures_cover(counts, max(left_out, done), end)))
        least.append((left_out + 1, end, min(covers)))
    return min([_joined(cover, _arrivals_cover(counts, behind, ticks)) for behind, _, cover in least])


def _joined(cover, other):
    """Return the cover with the ticks of another one behind its own."""
    return tuple([one + more for one, more in zip(cover, other)])


def _arrivals_cover(counts, start, end):
    """Return the cover with the arrivals from `start` to before `end`."""
    return (sum(counts.arrivals[start:end]), tuple(range(start, end)), (), ())


def _departures_cover(counts, start, end):
    """Return the cover with the departures from `start` to before `end`."""
    return (sum(counts.departures[start:end]), (), tuple(range(start, end)), ())
