"""Sums over the numbers of counts, and what known stays leave over of them.

These functions take tuples of numbers instead of Counts, because the class
Counts itself uses them.
"""

WORDS = ("arrivals", "departures", "present")


def present_after(arrivals, departures):
    """Return the tuple of the numbers of people present after each tick."""
    present = 0
    numbers = []
    for arriving, leaving in zip(arrivals, departures):
        present = present + arriving - leaving
        numbers.append(present)
    return tuple(numbers)


def numbers_without(arrivals, departures, stays):
    """Return the arrivals and departures without those of known stays.

    Some of these numbers are below 0 if the stays are not possible.
    """
    arriving = list(arrivals)
    leaving = list(departures)
    for arrived, left in stays:
        arriving[arrived] -= 1
        if left < len(leaving):
            leaving[left] -= 1
    return tuple(arriving), tuple(leaving)


def first_shortage(arrivals, departures):
    """Return the word and the tick of the first number below 0, or None."""
    # Each known stay takes one person from the people present after each tick
    # that it covers, so a number below 0 there means that too many cover it.
    present = present_after(arrivals, departures)
    for tick, numbers in enumerate(zip(arrivals, departures, present)):
        for word, number in zip(WORDS, numbers):
            if number < 0:
                return (word, tick)
    return None
