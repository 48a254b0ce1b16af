"""The judge of the papers of how a history comes to a stand, or that none ever does."""

from swaykeep.comings import fewest_by
from swaykeep.dips import check_spanned, ends_of, is_wider
from swaykeep.falls import floor, roof
from swaykeep.guards import is_whole
from swaykeep.settling import end_of


def are_swells(thing):
    """Whether a thing is a tuple of whole numbers."""
    return isinstance(thing, tuple) and all([is_whole(part) for part in thing])


def is_coming_paper(thing):
    """Whether a thing has the form of a paper of coming."""
    if not isinstance(thing, tuple) or len(thing) not in (3, 4) or not isinstance(thing[0], str):
        return False
    if thing[0] != ("come" if len(thing) == 4 else "never"):
        return False
    return all([are_swells(part) for part in thing[1:]])


def comes_again(house, stand, swell, up):
    """Whether a stand comes again from a swell beyond its end that way, led there from its other end."""
    low, high = ends_of(house, stand)
    there = end_of(house, stand, swell, up)
    return end_of(house, there, low if up else high, not up) == stand


def is_borne(house, stand, swell, outmost, up):
    """Whether a swell beyond a stand's end that way, and not beyond the outmost one, is borne."""
    low, high = ends_of(house, stand)
    if not is_wider(swell, high if up else low, up) or is_wider(swell, outmost, up):
        return False
    return comes_again(house, stand, swell, up)


def is_last_borne(house, stand, swell, outmost, up):
    """Whether a swell is borne, and the next one beyond it isn't."""
    if not is_borne(house, stand, swell, outmost, up):
        return False
    return not is_borne(house, stand, swell + 1 if up else swell - 1, outmost, up)


def has_more(house, stand, found, outmost, up):
    """Whether a widening goes on behind what was found of it, with the stand there."""
    if len(found) > 1:
        last = found[-2][0]
    else:
        low, high = ends_of(house, stand)
        last = high if up else low
    return is_borne(house, stand, last + 1 if up else last - 1, outmost, up)


def widened_along(house, stand, swells, outmost, up):
    """The widening whose swells are told, the first one a peak (up) or a dip; None where they are those of none."""
    found = []
    for swell in swells:
        if len(found) > 1 and not is_wider(swell, found[-2][0], up):
            return None
        if not is_last_borne(house, stand, swell, outmost[up], up):
            return None
        stand = end_of(house, stand, swell, up)
        found.append((swell, stand))
        up = not up
    return None if has_more(house, stand, found, outmost[up], up) else found


def coming_shows(house, stand, paper):
    """Whether a thing is a paper that shows how a history comes to a stand, or that none ever does."""
    check_spanned(house, stand)
    if not is_coming_paper(paper):
        return False
    outmost = {True: roof(house), False: floor(house)}
    dips = widened_along(house, stand, paper[-2], outmost, False)
    peaks = widened_along(house, stand, paper[-1], outmost, True)
    if dips is None or peaks is None:
        return False
    comes = any([there == () for _, there in dips + peaks])
    if paper[0] == "never":
        return not comes
    return comes and list(paper[1]) == fewest_by(house, stand, dips, peaks)
