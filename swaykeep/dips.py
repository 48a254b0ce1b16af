"""Deepest dips and highest peaks of stands, and the widenings by them.

The functions ends_of, farthest and widening_of refuse nothing: what they are handed is looked at before.
"""

from swaykeep.errors import NoSpan
from swaykeep.falls import branch_of, floor, roof
from swaykeep.guards import check_stand
from swaykeep.pulls import are_crossed, limits
from swaykeep.settling import end_of, gone


def ends_of(house, stand):
    """The ends of the span of a stand that is settled at some swell, floor and roof taken for None."""
    low, high = limits(house, stand)
    if low is None:
        low = floor(house)
    if high is None:
        high = roof(house)
    return low, high


def farthest(house, stand, up):
    """The highest peak of a stand that is settled at some swell (up), or its deepest dip; None where none is.

    Between two falls of its branch it stands alike, and what it bears it bears on the whole way there: so only the
    stands behind each fall are tried, until one does not lead back.
    """
    low, high = ends_of(house, stand)
    found = None
    there = stand
    for _, latches in branch_of(house, stand, up):
        there = gone(there, latches, up)
        if end_of(house, there, low if up else high, not up) != stand:
            break
        found = there
    if found is None:
        return None
    low, high = ends_of(house, found)
    return high if up else low, found


def is_wider(swell, last, up):
    """Whether a peak (up) or a dip goes strictly beyond the last one."""
    return swell > last if up else swell < last


def widening_of(house, stand, up):
    """The widening of a stand that is settled at some swell, by peaks (up) or by dips."""
    found = []
    following = farthest(house, stand, up)
    while following is not None and (len(found) < 2 or is_wider(following[0], found[-2][0], up)):
        found.append(following)
        up = not up
        following = farthest(house, following[1], up)
    return found


def check_spanned(house, stand):
    """Refuse what is no stand of a house, then one that is settled nowhere."""
    check_stand(house, stand)
    low, high = limits(house, stand)
    if are_crossed(low, high):
        raise NoSpan(stand)


def ends(house, stand):
    """The two swells between which a stand is settled, floor and roof taken for None."""
    check_spanned(house, stand)
    return ends_of(house, stand)


def deepest_dip(house, stand):
    """The tuple (swell, stand there) of the least swell that a stand bears, or None where that is its lower end."""
    check_spanned(house, stand)
    return farthest(house, stand, False)


def highest_peak(house, stand):
    """The tuple (swell, stand there) of the greatest swell that a stand bears, or None where that is its upper end."""
    check_spanned(house, stand)
    return farthest(house, stand, True)


def widening(house, stand, *, way="dip"):
    """The list of dips and peaks by turns, each farther than the last one of its kind."""
    check_spanned(house, stand)
    return widening_of(house, stand, way == "peak")
