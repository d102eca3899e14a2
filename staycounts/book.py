"""Books: counts with known stays, a limit, and a log of the deeds that changed them."""

from staycounts.arguments import check_ended_stays
from staycounts.counts import check_counts
from staycounts.errors import NothingToUndo
from staycounts.lengths import long_stays
from staycounts.pages import Page, check_deeds, page_after
from staycounts.ranges import within
from staycounts.stays import possible_departures


class Book:
    """Counts with known stays, a limit and a log; it changes by deeds only."""

    def __init__(self, counts, *known):
        check_counts(counts)
        check_ended_stays(len(counts), known)
        # A page for the beginning, then one for each deed of the log.
        self._pages = (Page(None, counts, known, None),)

    @property
    def counts(self):
        """The Counts as the deeds have left them."""
        return self._pages[-1].all_counts

    @property
    def known(self):
        """The sorted tuple of the known stays."""
        return self._pages[-1].known_stays

    @property
    def others(self):
        """The Counts of all people without a known stay."""
        return self._pages[-1].other_counts

    @property
    def max_length(self):
        """The limit, or None; assigning to it is a deed."""
        return self._pages[-1].limit

    @max_length.setter
    def max_length(self, value):
        self.do(("limit", value))

    @property
    def log(self):
        """The tuple of the deeds that were done and not taken back."""
        return tuple([page.deed for page in self._pages[1:]])

    def __len__(self):
        return len(self._pages[1:])

    def __eq__(self, other):
        if not isinstance(other, Book):
            return False
        return self.counts == other.counts and self.known == other.known and self.max_length == other.max_length

    def __repr__(self):
        return f"Book({len(self.counts)} ticks, {self.counts.people} people, {len(self.known)} known)"

    def do(self, deed):
        """Do a deed."""
        self.do_all(deed)

    def do_all(self, *deeds, watch=None):
        """Do all deeds, or none of them if one of them or a call of `watch` after it raises an error."""
        check_deeds(deeds)
        pages = self._pages
        try:
            for index, deed in enumerate(deeds):
                self._pages = self._pages + (page_after(self._pages[-1], deed),)
                if watch is not None:
                    watch(self, index)
            pages = self._pages
        finally:
            # An error leaves the pages of before; `watch` may raise any class of errors.
            self._pages = pages

    def undo(self):
        """Take back the last deed of the log."""
        if len(self._pages) == 1:
            raise NothingToUndo()
        self._pages = self._pages[:-1]

    def within(self, first, last):
        """Return the least and the greatest number of people who came and left within a range."""
        least, greatest = within(self.others, first, last)
        number = len([1 for arrived, left in self.known if first <= arrived and left <= last])
        return (number + least, number + greatest)

    def long_stays(self, length):
        """Return the least and the greatest number of ended stays of at least a length."""
        least, greatest = long_stays(self.others, length)
        number = len([1 for arrived, left in self.known if left - arrived >= length])
        return (number + least, number + greatest)

    def leave_ticks(self, arrived):
        """Return when one more person who arrived at this tick can have left."""
        known = self.known
        return possible_departures(self.counts, arrived, *known)


def assign_limit(book, value):
    """Assign a value to the limit of a book."""
    book.max_length = value
