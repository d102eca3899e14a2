"""Pages of a book: its counts, known stays and limit after each deed."""

from staycounts.arguments import check_ended_stays, check_length, is_stay_within
from staycounts.errors import InvalidDeed, LimitBroken, NotKnown
from staycounts.lengths import can_keep

# How many parts a deed has, its word included.
DEED_SIZES = {"learn": 2, "forget": 2, "correct": 4, "extend": 3, "limit": 2}


class Page:
    """What holds after a deed, or at the beginning of a book, where the deed is None; it never changes.

    The known stays are ended stays of the counts. If they are not possible, or if
    the limit cannot be kept, there is no such page: an error is raised.
    """

    def __init__(self, deed, counts, known, limit):
        self.deed = deed
        self.all_counts = counts
        self.known_stays = tuple(sorted(known))
        self.other_counts = counts.without(*known)
        self.limit = limit
        if limit is not None and not _can_all_keep(known, self.other_counts, limit):
            raise LimitBroken()


def check_deeds(deeds):
    """Raise InvalidDeed if one of the values is not a deed, whatever is behind its word."""
    for index, value in enumerate(deeds):
        if not _is_deed(value):
            raise InvalidDeed(index)


def page_after(page, deed):
    """Return the page that follows a page after a deed."""
    counts, known, limit = page.all_counts, page.known_stays, page.limit
    word = deed[0]
    if word == "learn":
        check_ended_stays(len(counts), deed[1:])
        known = known + deed[1:]
    elif word == "forget":
        known = _forgotten(len(counts), known, deed[1])
    elif word == "correct":
        counts = counts.changed(deed[1], arrivals=deed[2], departures=deed[3])
    elif word == "extend":
        counts = counts.extended(deed[1], deed[2])
    else:
        limit = deed[1]
        _check_limit(limit)
    return Page(deed, counts, known, limit)


def _is_deed(value):
    """Return whether a value is a tuple with the word of a deed and as many parts as this deed has."""
    if not isinstance(value, tuple) or len(value) == 0 or not isinstance(value[0], str):
        return False
    return DEED_SIZES.get(value[0]) == len(value)


def _forgotten(ticks, known, stay):
    """Return the known stays, one of them once less."""
    # (True, 1) equals the stay (1, 1) in Python, but it is not a stay.
    if not is_stay_within(ticks, stay) or stay not in known:
        raise NotKnown(stay)
    place = known.index(stay)
    return known[:place] + known[place + 1:]


def _check_limit(limit):
    """Raise InvalidLength if a value is neither None nor a limit."""
    if limit is not None:
        check_length(limit, 0)


def _can_all_keep(known, others, limit):
    """Return whether known stays keep a limit, and all other people can."""
    return all([left - arrived <= limit for arrived, left in known]) and can_keep(others, most=limit)
