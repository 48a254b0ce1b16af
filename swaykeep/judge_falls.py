"""The judge of the papers of falls and of a latch's going."""

from swaykeep.falls import first_fall, rounds_of, way_of
from swaykeep.guards import check_moment, is_latch, is_whole
from swaykeep.houses import is_stand
from swaykeep.pulls import rests
from swaykeep.settling import gone


def are_rounds(house, thing):
    """Whether a thing is a list of rising tuples of latches."""
    return isinstance(thing, list) and all([is_stand(house, row) for row in thing])


def is_fall_paper(house, thing):
    """Whether a thing has the form of a paper of a fall."""
    if not isinstance(thing, tuple) or len(thing) != 5:
        return False
    word, way, stand, swell, told = thing
    if not isinstance(word, str) or not isinstance(way, str):
        return False
    if word != "fall" or way not in ("up", "down"):
        return False
    return is_stand(house, stand) and is_whole(swell) and are_rounds(house, told)


def fall_holds(house, paper):
    """Whether a thing is a paper of a fall that holds."""
    if not is_fall_paper(house, paper):
        return False
    _, way, stand, swell, told = paper
    up = way == "up"
    if not rests(house, stand, swell - 1 if up else swell + 1):
        return False
    return len(told) > 0 and told == rounds_of(house, stand, swell, up)


def is_fall(house, thing):
    """Whether a thing has the form of a fall (swell, latches)."""
    return isinstance(thing, tuple) and len(thing) == 2 and is_whole(thing[0]) and is_stand(house, thing[1])


def is_going_paper(house, thing):
    """Whether a thing has the form of a paper of a latch's going, its last paper aside."""
    if not isinstance(thing, tuple) or len(thing) != 4:
        return False
    word, latch, ahead, _ = thing
    if not isinstance(word, str) or word != "goes" or not is_latch(house, latch):
        return False
    return isinstance(ahead, list) and all([is_fall(house, fall) for fall in ahead])


def behind(house, stand, ahead, up):
    """The stand behind falls, or None where one is not just the next fall that way.

    A settled stand has one fall alone at whose swell, less one step, it is settled: its first one.
    """
    for fall in ahead:
        if fall != first_fall(house, stand, up):
            return None
        stand = gone(stand, fall[1], up)
    return stand


def going_holds(house, stand, swell, paper):
    """Whether a thing is a paper that holds of the swell at which a latch goes."""
    check_moment(house, stand, swell)
    if not rests(house, stand, swell) or not is_going_paper(house, paper):
        return False
    _, latch, ahead, last = paper
    up = latch not in stand
    if not fall_holds(house, last):
        return False
    way, stand_ahead, told = last[1], last[2], last[4]
    if way != way_of(up) or stand_ahead != behind(house, stand, ahead, up):
        return False
    return any([latch in latches for latches in told])
