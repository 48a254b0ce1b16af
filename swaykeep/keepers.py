"""Keepers: stands that are led along swells, with what is left of all that swayed them."""

from swaykeep.errors import NoMark
from swaykeep.guards import check_swell, check_swells, is_name
from swaykeep.legs import carried, check_start
from swaykeep.legthings import changed
from swaykeep.mends import mended
from swaykeep.residues import take_out, turn_to


class Keeper:
    """A house that stands at a swell, what is left since its base, marks, and deeds to be undone.

    What it is now is one tuple (house, base, swells that are left, stand), the last swell left that of now, so that
    a moment to be brought back is such a tuple, too.
    """

    def __init__(self, house, swell, *, stand=()):
        check_start(house, stand, swell)
        self._now = (house, (stand, swell), (swell,), stand)
        self._deeds = []
        self._marks = {}

    def _do(self, moment):
        """Come to a moment by a deed."""
        self._deeds.append(self._now)
        self._now = moment

    def _behind(self, swells):
        """The moment behind swells, one of the moment of now where there are none."""
        house, base, left, stand = self._now
        left = list(left)
        for swell in swells:
            stand = carried(house, stand, left[-1], swell)
            turn_to(left, swell)
            take_out(left)
        return house, base, tuple(left), stand

    def to(self, swell):
        """Lead it to a swell; told are the latches that went, rising."""
        check_swell(swell)
        stand = self.stand_now()
        self._do(self._behind([swell]))
        return changed(stand, self.stand_now())

    def through(self, history, *, times=1):
        """Lead it through a history so many times over; told is its stand."""
        check_swells(history)
        # led through it again it stands, and has the residue, as led through it once
        self._do(self._behind(history if times > 0 else []))
        return self.stand_now()

    def house_now(self):
        """Its house."""
        return self._now[0]

    def stand_now(self):
        """Its stand."""
        return self._now[3]

    def swell_now(self):
        """Its swell."""
        return self._now[2][-1]

    def base(self):
        """The tuple (stand, swell) of its base."""
        return self._now[1]

    def residue(self):
        """What is left of the swells since its base, the base's first."""
        return list(self._now[2])

    def forget(self):
        """Make the stand and swell of now the base."""
        house, stand, swell = self.house_now(), self.stand_now(), self.swell_now()
        self._do((house, (stand, swell), (swell,), stand))

    def mark(self, name):
        """Put a name on the moment."""
        if not is_name(name):
            raise NoMark(name)
        self._marks[name] = self._now

    def back(self, name):
        """Bring the moment of a name back."""
        if not is_name(name) or name not in self._marks:
            raise NoMark(name)
        self._do(self._marks[name])

    def marks(self):
        """The names that stand on moments, sorted."""
        return sorted(self._marks)

    def undo(self):
        """Take the last deed back that is not taken back yet; told is whether there was one."""
        if not self._deeds:
            return False
        self._now = self._deeds.pop()
        return True

    def mend(self, house):
        """Put a house in the place of its own; told are the latches that went, rising."""
        stand, swell = self.stand_now(), self.swell_now()
        left_by_mend = mended(self.house_now(), house, swell, stand)
        self._do((house, (left_by_mend, swell), (swell,), left_by_mend))
        return changed(stand, left_by_mend)

    def twin(self):
        """Another Keeper of which all is the same."""
        stand, swell = self.base()
        other = Keeper(self.house_now(), swell, stand=stand)
        other._now = self._now
        other._deeds = list(self._deeds)
        other._marks = dict(self._marks)
        return other

    def __eq__(self, other):
        if not isinstance(other, Keeper):
            return False
        if self.house_now() != other.house_now() or self.stand_now() != other.stand_now():
            return False
        return self.swell_now() == other.swell_now()

    def __len__(self):
        return len(self._deeds)

    def __repr__(self):
        return f"Keeper({len(self.stand_now())}, {self.swell_now()})"


def kept_along(house, stand, swells):
    """A Keeper with a stand at the first of swells as its base, led through them, with nothing to be undone."""
    keeper = Keeper(house, swells[0], stand=stand)
    keeper._now = keeper._behind(swells)
    return keeper
