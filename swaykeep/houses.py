"""Houses of latches that help one another, and their stands."""

from swaykeep.errors import NoHouse
from swaykeep.guards import check_latch, is_rising_below, is_whole

MOST_LATCHES = 14
MOST_HELP = 9


def is_pair(thing):
    """Whether a thing is a latch's pair of an up-number and a lesser down-number."""
    if not isinstance(thing, tuple) or len(thing) != 2:
        return False
    up, down = thing
    return is_whole(up) and is_whole(down) and down < up


def is_lending(thing, many_latches):
    """Whether a thing tells what one latch of so many lends another one."""
    if not isinstance(thing, tuple) or len(thing) != 3 or not all([is_whole(part) for part in thing]):
        return False
    one, other, many = thing
    if not 0 <= one < many_latches or not 0 <= other < many_latches:
        return False
    return one != other and 1 <= many <= MOST_HELP


def check_latches(latches):
    """Refuse what are no latches of a house."""
    if not isinstance(latches, tuple) or not 1 <= len(latches) <= MOST_LATCHES:
        raise NoHouse("latches", None)
    for number, pair in enumerate(latches):
        if not is_pair(pair):
            raise NoHouse("latch", number)


def check_helps(helps, many_latches):
    """Refuse what are no helps among so many latches."""
    if not isinstance(helps, tuple):
        raise NoHouse("helps", None)
    pairs = []
    for place, lending in enumerate(helps):
        if not is_lending(lending, many_latches) or lending[:2] in pairs:
            raise NoHouse("help", place)
        pairs.append(lending[:2])


def lenders_to(latch, helps):
    """The pairs of a latch that lends to this one, and how many."""
    return tuple([(one, many) for one, other, many in helps if other == latch])


class House:
    """A house of latches, numbered from 0, and of what they lend one another. It never changes."""

    def __init__(self, latches, helps=()):
        check_latches(latches)
        check_helps(helps, len(latches))
        self._latches = tuple([(up, down) for up, down in latches])
        self._helps = tuple(sorted([(one, other, many) for one, other, many in helps]))
        self._lenders = tuple([lenders_to(latch, self._helps) for latch in range(len(latches))])

    def latches(self):
        """The pairs (up-number, down-number) of all latches."""
        return self._latches

    def helps(self):
        """The sorted tuples (one, other, many): one lends other many."""
        return self._helps

    def up_at(self, latch):
        """The up-number of a latch."""
        check_latch(self, latch)
        return self._latches[latch][0]

    def down_at(self, latch):
        """The down-number of a latch."""
        check_latch(self, latch)
        return self._latches[latch][1]

    def lenders(self, latch):
        """The pairs of a latch that lends to this one, and how many."""
        check_latch(self, latch)
        return self._lenders[latch]

    def all_help(self, latch):
        """All that is lent to a latch by all others together."""
        return sum([many for _, many in self.lenders(latch)])

    def __eq__(self, other):
        return isinstance(other, House) and self._latches == other._latches and self._helps == other._helps

    def __len__(self):
        return len(self._latches)

    def __repr__(self):
        return f"House({len(self._latches)}, {len(self._helps)})"


def is_stand(house, thing):
    """Whether a thing is a stand of a house: a tuple of rising numbers of its latches."""
    return is_rising_below(thing, len(house))
