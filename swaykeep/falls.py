"""The falls of legs: at which swells which latches go, and what papers show it."""

from swaykeep.errors import NoFall
from swaykeep.guards import check_latch, check_moment, check_stand
from swaykeep.legs import check_leg, check_start
from swaykeep.pulls import check_settled, level_of, waiting_of
from swaykeep.settling import gone, waves_at, waves_of


def way_of(up):
    """The word of a way."""
    return "up" if up else "down"


def rounds_of(house, stand, swell, up):
    """The rounds of a fall, of things that are looked at before."""
    return [tuple(wave) for wave in waves_of(house, stand, swell, up)]


def together(waves):
    """The rising tuple of all latches of waves."""
    return tuple(sorted([latch for wave in waves for latch in wave]))


def first_fall(house, stand, up):
    """The first fall that a settled stand has that way, or None: the least need tells its level."""
    waiting = waiting_of(house, stand, up)
    if not waiting:
        return None
    level = min(waiting)[0]
    waves, _ = waves_at(house, waiting, level)
    return level_of(level, up), together(waves)


def steps_of(house, stand, up, last):
    """The tuples (swell, waves) of the falls that a settled stand has that way, up to the last level (None: all)."""
    steps = []
    waiting = waiting_of(house, stand, up)
    while waiting:
        level = min(waiting)[0]
        if last is not None and level > last:
            break
        waves, waiting = waves_at(house, waiting, level)
        # a level is told as a swell just as a swell as a level
        steps.append((level_of(level, up), waves))
    return steps


def branch_of(house, stand, up):
    """All falls that a settled stand has that way."""
    return [(swell, together(waves)) for swell, waves in steps_of(house, stand, up, None)]


def falls_of(house, stand, start, end):
    """The falls of a leg, of things that are looked at before."""
    up = end >= start
    return [(swell, together(waves)) for swell, waves in steps_of(house, stand, up, level_of(end, up))]


def fall_papers(house, stand, start, end):
    """The papers of the falls of a leg, in order, of things that are looked at before."""
    up = end >= start
    papers = []
    for swell, waves in steps_of(house, stand, up, level_of(end, up)):
        papers.append(("fall", way_of(up), stand, swell, [tuple(wave) for wave in waves]))
        stand = gone(stand, together(waves), up)
    return papers


def falls(house, stand, start, end):
    """The falls (swell, latches) of a leg, in the order of the way."""
    check_leg(house, stand, start, end)
    return falls_of(house, stand, start, end)


def rounds(house, stand, swell, *, up=True):
    """The latches that go at once at a swell, again and again: rising tuples."""
    check_moment(house, stand, swell)
    return rounds_of(house, stand, swell, up)


def next_move(house, stand, swell, *, up=True):
    """The first fall that a stand has that way, or None where there is none."""
    check_start(house, stand, swell)
    return first_fall(house, stand, up)


def branch(house, stand, swell, *, up=True):
    """All falls that a stand has that way."""
    check_start(house, stand, swell)
    return branch_of(house, stand, up)


def check_going(house, stand, swell, latch):
    """Refuse what a latch's going cannot be asked of."""
    check_stand(house, stand)
    check_latch(house, latch)
    check_start(house, stand, swell)


def ahead_of(falls_on, latch):
    """The falls ahead of the one in which a latch goes, and its swell."""
    ahead = []
    for swell, latches in falls_on:
        if latch in latches:
            return ahead, swell
        ahead.append((swell, latches))
    return ahead, None


def going(house, stand, swell, latch):
    """The swell at which a latch goes: up, where it is down, else down."""
    check_going(house, stand, swell, latch)
    return ahead_of(branch_of(house, stand, latch not in stand), latch)[1]


def fall_paper(house, stand, swell, *, up=True):
    """The paper of the fall that a stand has at a swell."""
    check_moment(house, stand, swell)
    check_settled(house, stand, swell - 1 if up else swell + 1)
    told = rounds_of(house, stand, swell, up)
    if not told:
        raise NoFall(swell)
    return "fall", way_of(up), stand, swell, told


def going_paper(house, stand, swell, latch):
    """The paper of the swell at which a latch goes."""
    check_going(house, stand, swell, latch)
    up = latch not in stand
    ahead, at = ahead_of(branch_of(house, stand, up), latch)
    for _, latches in ahead:
        stand = gone(stand, latches, up)
    return "goes", latch, ahead, fall_paper(house, stand, at, up=up)


def floor(house):
    """The greatest swell at which, led down to it from all up, none is up."""
    return branch_of(house, tuple(range(len(house))), False)[-1][0]


def roof(house):
    """The least swell at which, led up to it from none up, all are."""
    return branch_of(house, (), True)[-1][0]
