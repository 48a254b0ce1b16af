"""Legs as things: parted, joined and turned round."""

from swaykeep.errors import NoJoin, NoSwell
from swaykeep.falls import falls, way_of
from swaykeep.guards import is_whole
from swaykeep.legs import carried, check_leg


def changed(one, other):
    """The latches that are up in one of two stands alone, rising."""
    return tuple(sorted([k for k in one if k not in other] + [k for k in other if k not in one]))


class Leg:
    """A leg of a house, from a stand that is settled at a start to an end. It never changes."""

    def __init__(self, house, stand, start, end):
        check_leg(house, stand, start, end)
        self._house = house
        self._first = tuple(stand)
        self._start = start
        self._end = end
        self._last = carried(house, stand, start, end)
        self._went = changed(self._first, self._last)

    def its_house(self):
        """The house."""
        return self._house

    def first_stand(self):
        """The stand at the start."""
        return self._first

    def last_stand(self):
        """The stand at the end."""
        return self._last

    def from_swell(self):
        """The start."""
        return self._start

    def to_swell(self):
        """The end."""
        return self._end

    def goes(self):
        """The way: "up", where the end is the start or above it, else "down"."""
        return way_of(self._end >= self._start)

    def its_falls(self):
        """The falls, in the order of the way."""
        return falls(self._house, self._first, self._start, self._end)

    def went(self):
        """The latches that went, rising."""
        return self._went

    def stand_at(self, swell):
        """The stand at a swell on the leg."""
        low, high = min(self._start, self._end), max(self._start, self._end)
        if not is_whole(swell) or not low <= swell <= high:
            raise NoSwell(swell)
        return carried(self._house, self._first, self._start, swell)

    def cut_at(self, swell):
        """The two legs up to a swell on the leg, and on from it."""
        stand = self.stand_at(swell)
        ahead = Leg(self._house, self._first, self._start, swell)
        return ahead, Leg(self._house, stand, swell, self._end)

    def joined_with(self, leg):
        """The leg that this one and one that goes on from its end are together."""
        if self._house != leg.its_house():
            raise NoJoin("house")
        if self._end != leg.from_swell():
            raise NoJoin("swell")
        if self._last != leg.first_stand():
            raise NoJoin("stand")
        nowhere = self._start == self._end or leg.from_swell() == leg.to_swell()
        if not nowhere and self.goes() != leg.goes():
            raise NoJoin("way")
        return Leg(self._house, self._first, self._start, leg.to_swell())

    def turned_round(self):
        """The leg from the last stand at the end back to the start."""
        return Leg(self._house, self._last, self._end, self._start)

    def __eq__(self, other):
        if not isinstance(other, Leg):
            return False
        if self._house != other._house or self._first != other._first:
            return False
        return self._start == other._start and self._end == other._end

    def __len__(self):
        return len(self._went)

    def __repr__(self):
        return f"Leg({self._start}, {self._end}, {len(self._went)})"
