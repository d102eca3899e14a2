"""Sums over the numbers of counts, and what known stays leave over of them.

These functions take tuples of numbers instead of Counts, because the class
Counts itself uses them.
"""

WORDS = ("arrivals", "departures", "present")


def present_after(arrivals, departures):
    """Return the tuple of the numbers of people present after each tick."""
    present = 0
    numbers = []
    for arriving, leaving in zip(arrivals, departures):
        present = present + arriving - leaving
        numbers.append(present)
    return tuple(numbers)


def numbers_without(arrivals, departures, stays):
    """Return the arrivals and departures without those of known stays.

    Some of these numbers are below 0 if the stays are not possible.
    """
    arriving = list(arrivals)
    leaving = list(departures)
    for arrived, left in stays:
        arriving[arrived] -= 1
        if left < len(leaving):
            leaving[left] -= 1
    return tuple(arriving), tuple(leaving)


def shortages(arrivals, departures):
    """Return the words and ticks of all numbers below 0 as a list of pairs, tick by tick."""
    # Each known stay takes one person from the people present after each tick
    # that it covers, so a number below 0 there means that too many cover it.
    rows = list(zip(arrivals, departures, present_after(arrivals, departures)))
    return [(word, tick) for tick, numbers in enumerate(rows) for word, number in zip(WORDS, numbers) if number < 0]


def first_shortage(arrivals, departures):
    """Return the word and the tick of the first number below 0, or None."""
    found = shortages(arrivals, departures)
    return found[0] if found else None


def cut_sum(arrivals, departures, first, place, last):
    """Return the arrivals of a range before a place in it and the departures from there on."""
    # Whoever came and left within the range is among the former or the latter.
    return sum(arrivals[first:place]) + sum(departures[place:last + 1])


def least_within(arrivals, departures, first, last):
    """Return the least number of people who came and left within a range."""
    # All others who left by the end of the range arrived before it.
    return max(0, sum(departures[:last + 1]) - sum(arrivals[:first]))
