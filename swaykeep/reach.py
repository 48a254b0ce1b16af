"""All stands that can be come to from rest, and all islands of a house."""

from swaykeep.comings import island_at
from swaykeep.errors import TooMany
from swaykeep.falls import first_fall
from swaykeep.pulls import are_crossed, limits
from swaykeep.settling import gone

MOST_LATCHES_OF_ALL_ISLANDS = 8


class Moves:
    """The next moves of the settled stands of a house, each found once, when it is first asked for."""

    def __init__(self, house):
        self._house = house
        self._known = {True: {}, False: {}}

    def step(self, stand, up):
        """The swell of the next move of a stand that way and the stand behind it, or None where there is none."""
        known = self._known[up]
        if stand not in known:
            fall = first_fall(self._house, stand, up)
            known[stand] = None if fall is None else (fall[0], gone(stand, fall[1], up))
        return known[stand]

    def all_steps(self, stand, up):
        """The tuples (swell, stand) of all moves that way, one behind the other."""
        found = []
        following = self.step(stand, up)
        while following is not None:
            found.append(following)
            following = self.step(following[1], up)
        return found


def lead_on(moves, stands, up, seen, most):
    """The stands to which one more leg that way leads from stands, those left out that such a leg led to before.

    Put down in seen for each stand is by which ways it was come to; more of them than most are refused.
    """
    found = []
    for stand in stands:
        following = moves.step(stand, up)
        while following is not None:
            there = following[1]
            ways = seen.setdefault(there, [])
            if up in ways:
                break
            if len(seen) > most:
                raise TooMany(most)
            ways.append(up)
            found.append(there)
            following = moves.step(there, up)
    return found


def turns_to_all(moves, most):
    """For each stand that can be come to from rest the fewest turns by which it is."""
    turns = {(): 0}
    # () stands at the floor, to which no leg down leads that moves anything
    seen = {(): [False]}
    stands = [()]
    up = True
    many = 0
    while stands:
        many = many + 1
        stands = lead_on(moves, stands, up, seen, most)
        for stand in stands:
            turns.setdefault(stand, many)
        up = not up
    return turns


def reached(house, *, most=400):
    """The sorted tuples (turns, stand) of all stands that can be come to, turns the fewest from () at the floor."""
    turns = turns_to_all(Moves(house), most)
    return sorted([(many, stand) for stand, many in turns.items()])


def is_spanned(house, stand):
    """Whether a stand is settled at some swell."""
    low, high = limits(house, stand)
    return not are_crossed(low, high)


def all_spanned(house):
    """All stands of a house that are settled at some swell."""
    stands = [()]
    for latch in range(len(house)):
        stands = stands + [(*stand, latch) for stand in stands]
    return [stand for stand in stands if is_spanned(house, stand)]


def lies_within(swell, low, high):
    """Whether a swell lies within an island's ends, None of none."""
    return (low is None or low <= swell) and (high is None or swell <= high)


def stands_on(moves, island):
    """The stands of an island: all to which histories within its ends lead from its bottom."""
    bottom, _, low, high = island
    seen = {bottom: True}
    waiting = [bottom]
    while waiting:
        stand = waiting.pop()
        for up in (True, False):
            following = moves.step(stand, up)
            if following is not None and lies_within(following[0], low, high) and following[1] not in seen:
                seen[following[1]] = True
                waiting.append(following[1])
    return list(seen)


def islands(house):
    """The sorted tuples (bottom, top, low, high, many) of all islands, many how many stands lie on it."""
    if len(house) > MOST_LATCHES_OF_ALL_ISLANDS:
        raise TooMany(MOST_LATCHES_OF_ALL_ISLANDS)
    moves = Moves(house)
    known = {}
    found = []
    for stand in all_spanned(house):
        if stand not in known:
            island = island_at(house, stand)
            stands = stands_on(moves, island)
            for other in stands:
                known[other] = True
            found.append((*island, len(stands)))
    # no two have the same bottom, so None is compared with no number
    return sorted(found)
