"""Islands of stands, how they are left, and the fewest turns by which a history comes to a stand.

The functions above island_of refuse nothing: what they are handed is looked at before.
"""

from swaykeep.dips import check_spanned, ends_of, widening_of
from swaykeep.pulls import limits
from swaykeep.settling import end_of


def bottom_and_top(stand, dips, peaks):
    """The bottom and the top of a stand's island, by its two widenings."""
    last_two = (dips or peaks)[-2:]
    if not last_two:
        return stand, stand
    bottom, top = sorted([there for _, there in last_two], key=len)
    return bottom, top


def island_at(house, stand):
    """The island of a stand that is settled at some swell."""
    dips = widening_of(house, stand, False)
    # both widenings come to the same island
    peaks = [] if dips else widening_of(house, stand, True)
    bottom, top = bottom_and_top(stand, dips, peaks)
    return bottom, top, limits(house, bottom)[0], limits(house, top)[1]


def swells_of(widened):
    """The swells of a widening."""
    return tuple([swell for swell, _ in widened])


def swells_ahead(widened, bottom):
    """The swells of a widening up to the first at which bottom stands, this one left out, or None of no such one."""
    swells = []
    for swell, there in widened:
        if there == bottom:
            return swells
        swells.append(swell)
    return None


def fewest_by(house, stand, dips, peaks):
    """The history of the fewest turns to a stand, by its two widenings."""
    bottom, _ = bottom_and_top(stand, dips, peaks)
    first = ends_of(house, bottom)[0]
    if stand == bottom:
        return [first]
    low, high = ends_of(house, stand)
    found = []
    for widened, last in ((dips, high), (peaks, low)):
        swells = swells_ahead(widened, bottom)
        if swells is not None:
            found.append([first] + swells[::-1] + [last])
    return min(found, key=len)


def fewest_to(house, stand):
    """The history of the fewest turns to a stand that is settled at some swell."""
    return fewest_by(house, stand, widening_of(house, stand, False), widening_of(house, stand, True))


def island_of(house, stand):
    """The tuple (bottom, top, low, high) of the island on which a stand lies."""
    check_spanned(house, stand)
    return island_at(house, stand)


def leaving(house, stand):
    """The two islands to which one comes below and above that of a stand, None and None of rest's."""
    bottom, top, low, high = island_of(house, stand)
    # rest has no end on either side
    if low is None:
        return None, None
    below = end_of(house, bottom, low - 1, False)
    above = end_of(house, top, high + 1, True)
    return island_at(house, below), island_at(house, above)


def fewest(house, stand):
    """The history from the bottom of its island to a stand that has the fewest turns."""
    check_spanned(house, stand)
    return fewest_to(house, stand)


def coming(house, stand):
    """The paper ("come", history, dips, peaks) of a stand of rest, of any other one ("never", dips, peaks)."""
    check_spanned(house, stand)
    dips = widening_of(house, stand, False)
    peaks = widening_of(house, stand, True)
    if bottom_and_top(stand, dips, peaks)[0] != ():
        return "never", swells_of(dips), swells_of(peaks)
    return "come", tuple(fewest_by(house, stand, dips, peaks)), swells_of(dips), swells_of(peaks)
