"""The ledger of a history: what is left of it, and what the swings lost that closed."""

from swaykeep.guards import check_history, check_latch, check_swell
from swaykeep.legs import check_led, check_start
from swaykeep.residues import is_inner, turn_to
from swaykeep.settling import gone
from swaykeep.swings import leg_goings, loss_of, turns_of_swing, work_of


class Ledger:
    """A house led along swells, with what is left of them, the stands there, and sums of all that was."""

    def __init__(self, house, stand, swell):
        check_start(house, stand, swell)
        self._house = house
        # the swells that are left, and the stand at each of them
        self._left = [swell]
        self._stands = [stand]
        # how many swings closed of each (low, high, loss)
        self._closed = {}
        self._done = 0
        # of each latch how often it went up and down, and where last
        self._ups = [0 for _ in range(len(house))]
        self._downs = [0 for _ in range(len(house))]
        self._last = [None for _ in range(len(house))]

    def _go(self, swell):
        """Lead it to a swell; told are the swings that close, and the goings."""
        start, stand = self.swell_now(), self.stand_now()
        went = leg_goings(self._house, stand, start, swell)
        stand = gone(stand, [latch for latch, _, _ in went], swell >= start)
        turn_to(self._left, swell)
        self._stands = self._stands[:len(self._left) - 1] + [stand]
        return self._take_out(), went

    def _take_out(self):
        """Take out the inner swings that a leg closed; told are they, the inner ones first."""
        closed = []
        place = len(self._left) - 3
        while is_inner(self._left, place):
            one, other = self._left[place], self._left[place + 1]
            turns = turns_of_swing(self._house, self._stands[place], one, other)
            closed.append((min(one, other), max(one, other), loss_of(turns)))
            del self._left[place:place + 2]
            del self._stands[place:place + 2]
            place = place - 2
        return closed

    def _note(self, closed, went, times):
        """Put down what closed and what went, so many times over."""
        for swing in closed:
            self._closed[swing] = self._closed.get(swing, 0) + times
        self._done = self._done + times * work_of(went)
        for latch, way, swell in went:
            if way == "up":
                self._ups[latch] = self._ups[latch] + times
            else:
                self._downs[latch] = self._downs[latch] + times
            self._last[latch] = swell

    def to(self, swell):
        """Lead it to a swell; told are the swings (low, high, loss) that close, the inner ones first."""
        check_swell(swell)
        closed, went = self._go(swell)
        self._note(closed, went, 1)
        return closed

    def through(self, history, *, times=1):
        """Lead it through a history so many times over; told is its stand."""
        check_history(history)
        # from the second time on each time closes and moves the same
        for past in range(min(times, 2)):
            closed = []
            went = []
            for swell in history:
                swings, moves = self._go(swell)
                closed.extend(swings)
                went.extend(moves)
            self._note(closed, went, times - 1 if past else 1)
        return self.stand_now()

    def house_now(self):
        """Its house."""
        return self._house

    def stand_now(self):
        """Its stand."""
        return self._stands[-1]

    def swell_now(self):
        """Its swell."""
        return self._left[-1]

    def rest(self):
        """The swells that are left."""
        return list(self._left)

    def rows(self):
        """The tuples (low, high, loss, many) of all swings that closed, sorted."""
        return sorted([(*swing, many) for swing, many in self._closed.items()])

    def loss(self):
        """The loss of all swings that closed."""
        return sum([lost * many for _, _, lost, many in self.rows()])

    def work(self):
        """The work of all that went."""
        return self._done

    def turned(self, latch):
        """How often a latch went up, and down."""
        check_latch(self._house, latch)
        return self._ups[latch], self._downs[latch]

    def last(self, latch):
        """The swell at which a latch last went, or None."""
        check_latch(self._house, latch)
        return self._last[latch]

    def twin(self):
        """Another Ledger of which all is the same."""
        other = Ledger(self._house, self.stand_now(), self.swell_now())
        other._left = list(self._left)
        other._stands = list(self._stands)
        other._closed = {swing: many for swing, many in self._closed.items()}
        other._done = self._done
        other._ups = list(self._ups)
        other._downs = list(self._downs)
        other._last = list(self._last)
        return other

    def __eq__(self, other):
        if not isinstance(other, Ledger):
            return False
        if self._house != other._house or self._stands[-1] != other._stands[-1]:
            return False
        return self._left == other._left and self._closed == other._closed

    def __len__(self):
        return len(self._left)

    def __repr__(self):
        return f"Ledger({self._left[-1]}, {self.loss()})"


def ledger(house, stand, history):
    """The tuple (rest, rows) of a history: the swells that are left, and rows of the swings that closed."""
    check_led(house, stand, history)
    told = Ledger(house, stand, history[0])
    for swell in history[1:]:
        told.to(swell)
    return told.rest(), told.rows()
