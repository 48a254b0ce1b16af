"""The judge of the papers of climbing and sinking."""

from swaykeep.guards import check_moment, is_latch, is_whole
from swaykeep.houses import is_stand
from swaykeep.pulls import lent_in
from swaykeep.settling import gone


def is_pulled(house, thing):
    """Whether a thing has the form of a tuple (latch, pull)."""
    if not isinstance(thing, tuple) or len(thing) != 2:
        return False
    latch, pulled = thing
    return is_latch(house, latch) and is_whole(pulled)


def are_pulled(house, thing):
    """Whether a thing is a tuple of tuples (latch, pull)."""
    return isinstance(thing, tuple) and all([is_pulled(house, row) for row in thing])


def is_settling_paper(house, thing):
    """Whether a thing has the form of a paper of climbing or sinking."""
    if not isinstance(thing, tuple) or len(thing) != 3:
        return False
    word, went, stayed = thing
    if not isinstance(word, str) or word not in ("climbed", "sunk"):
        return False
    return are_pulled(house, went) and are_pulled(house, stayed)


def wants_to_go(house, latch, pulled, up):
    """Whether a latch that is so pulled wants to go that way."""
    _, _, up_at, down_at = house.marks()[latch]
    return pulled >= up_at if up else pulled <= down_at


def behind(house, stand, swell, went, up):
    """The stand behind latches that went in a row, or None where one could not go as told."""
    for latch, pulled in went:
        if (latch in stand) == up or pulled != swell + lent_in(house, stand, latch):
            return None
        if not wants_to_go(house, latch, pulled, up):
            return None
        stand = gone(stand, [latch], up)
    return stand


def all_stay(house, stand, swell, stayed, up):
    """Whether told are just the latches that could go that way, with their pulls, and none wants to."""
    if sorted([latch for latch, _ in stayed]) != [latch for latch in range(len(house)) if (latch in stand) != up]:
        return False
    for latch, pulled in stayed:
        if pulled != swell + lent_in(house, stand, latch) or wants_to_go(house, latch, pulled, up):
            return False
    return True


def settling_shows(house, stand, swell, end, paper):
    """Whether a thing is a paper that shows that the end is climbing's, or sinking's."""
    check_moment(house, stand, swell)
    if not is_stand(house, end) or not is_settling_paper(house, paper):
        return False
    word, went, stayed = paper
    up = word == "climbed"
    last = behind(house, stand, swell, went, up)
    return last == end and all_stay(house, end, swell, stayed, up)
