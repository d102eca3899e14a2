"""Histories as tuples of triples, and as numbers of people for each stay."""


def history_of(numbers):
    """Return the history with these numbers of people, each at least 1, as a dict by stays."""
    return tuple([(arrived, left, numbers[(arrived, left)]) for arrived, left in sorted(numbers)])


def number_within(history, first, last):
    """Return the number of people of a history who came and left within a range."""
    return sum([number for arrived, left, number in history if first <= arrived and left <= last])


def number_of_long(history, ticks, length):
    """Return the number of ended stays of at least a length in a history of so many ticks."""
    return sum([number for arrived, left, number in history if left < ticks and left - arrived >= length])


def numbers_of(history):
    """Return the numbers of people of a history as a dict by stays."""
    return {(arrived, left): number for arrived, left, number in history}
