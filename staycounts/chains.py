"""Chains of rooms: people pass one door after another, the last one out of the house."""

from staycounts.arguments import check_number, check_range
from staycounts.counts import Counts
from staycounts.errors import InvalidCounts, InvalidDoors
from staycounts.lengths import can_keep
from staycounts.stays import possible_departures
from staycounts.tallies import least_within

MAX_DOORS = 4


class Chain:
    """The numbers of people who arrive, and who pass each door, at each tick; they never change."""

    def __init__(self, arrivals, *doors):
        if not 1 <= len(doors) <= MAX_DOORS:
            raise InvalidDoors(None)
        # If all who arrive leave at once, only the arrivals themselves can be wrong.
        _room(0, arrivals, arrivals)
        rows = (arrivals, *doors)
        self._rows = rows
        self._rooms = tuple([_room(index, rows[index - 1], rows[index]) for index in range(1, len(rows))])
        self._house = Counts(arrivals, doors[-1])

    @property
    def house(self):
        """The Counts of the whole house."""
        return self._house

    def __len__(self):
        return len(self._rooms)

    def __eq__(self, other):
        return isinstance(other, Chain) and self._rooms == other._rooms

    def __repr__(self):
        return f"Chain({len(self._rooms)} rooms, {len(self._house)} ticks)"

    def __getitem__(self, at):
        check_number(at, 0, len(self._rooms) - 1)
        return self._rooms[at]

    def __iter__(self):
        # Without this, Python would iterate by index and end with InvalidNumber.
        raise TypeError("a Chain is not iterated over")

    def within(self, first, last):
        """Return the least and the greatest number of people who came and left the house within a range."""
        check_range(len(self._house), first, last)
        # If the eldest pass each door first, people leave the house in the order in
        # which they arrived, so the least number is that of a single room.
        least = least_within(self._house.arrivals, self._house.departures, first, last)
        greatest, _ = _least_cuts(self._rows, first, last)
        return (least, greatest)

    def cuts(self, first, last):
        """Return the first places, one for each door, at which the people counted between them are fewest."""
        check_range(len(self._house), first, last)
        _, places = _least_cuts(self._rows, first, last)
        return places

    def possible_departures(self, arrived):
        """Return when somebody who arrived at this tick can have left the house."""
        ticks = possible_departures(self._rooms[0], arrived)
        for room in self._rooms[1:]:
            ticks = _later_departures(room, ticks)
        return ticks

    def can_keep(self, *, least=0, most=60):
        """Return whether all stays in the house can be kept within the limits."""
        # People can leave the house in the order in which they arrived, as
        # EldestFirst chooses for the whole house: no other order keeps more limits.
        return can_keep(self._house, least=least, most=most)


def _room(index, arrivals, departures):
    """Return the Counts of a room, or raise InvalidDoors with the index of the argument that is wrong."""
    try:
        return Counts(arrivals, departures)
    except InvalidCounts:
        raise InvalidDoors(index) from None


def _later_departures(room, ticks):
    """Return when somebody who came into a room at one of these ticks can have left it."""
    # Whoever has not come before the end is still in a room ahead of it. People who
    # come into the room at one tick can change places, so all stays in it are possible.
    found = {tick: True for tick in ticks if tick == len(room)}
    for tick in ticks:
        if tick < len(room):
            for left in possible_departures(room, tick):
                found[left] = True
    return tuple(sorted(found))


def _least_cuts(rows, first, last):
    """Return the least sum of people counted between places in a range, and the first such places.

    Each row but the last one counts from its own place to the next one, where the
    first place is the beginning of the range. The last row counts to the end.
    """
    places = list(range(first, last + 2))
    least = {place: (sum(rows[-1][place:last + 1]), ()) for place in places}
    for row in rows[-2::-1]:
        least = {place: _least_from(row, place, places, least) for place in places}
    return least[first]


def _least_from(row, place, places, least):
    """Return the least sum and the first places if a row counts from a place to one behind it."""
    found = []
    for following in places:
        if following >= place:
            total, behind = least[following]
            found.append((sum(row[place:following]) + total, (following, *behind)))
    return min(found)
