"""Histories as tuples of triples, and as numbers of people for each stay."""


def history_of(numbers):
    """Return the history with these numbers of people, each at least 1, as a dict by stays."""
    return tuple([(arrived, left, numbers[(arrived, left)]) for arrived, left in sorted(numbers)])


def numbers_of(history):
    """Return the numbers of people of a history as a dict by stays."""
    return {(arrived, left): number for arrived, left, number in history}
