"""The bare history: what is left of a history where nothing that moves no latch, or leads back, is kept."""

from swaykeep.falls import branch_of
from swaykeep.legs import check_led
from swaykeep.residues import residue_of
from swaykeep.settling import gone


def is_on_way(fall, end, up):
    """Whether a fall of a branch is reached by a leg to an end."""
    return fall[0] <= end if up else fall[0] >= end


def falls_to(house, stand, end, up, branches):
    """The falls of a leg to an end; branches keeps what was found of a stand, as legs from it come again."""
    if (stand, up) not in branches:
        branches[(stand, up)] = branch_of(house, stand, up)
    return [fall for fall in branches[(stand, up)] if is_on_way(fall, end, up)]


def drawn_back(house, stand, history, branches):
    """Each leg's end at its last fall, legs without one left out; and the stands at each of these swells."""
    swells = [history[0]]
    stands = [stand]
    for start, end in zip(history, history[1:]):
        up = end > start
        found = falls_to(house, stand, end, up, branches)
        for _, latches in found:
            stand = gone(stand, latches, up)
        if found:
            swells.append(found[-1][0])
            stands.append(stand)
    return swells, stands


def without_return(swells, stands):
    """The swells without those behind the first standing of the first stand that stands again, up to its last one."""
    last = {stand: place for place, stand in enumerate(stands)}
    for place, stand in enumerate(stands):
        if last[stand] > place:
            return swells[:place + 1] + swells[last[stand] + 1:]
    return swells


def bare(house, stand, history):
    """The history bared, by rounds, until one changes nothing."""
    check_led(house, stand, history)
    branches = {}
    left = []
    following = list(history)
    while following != left:
        left = following
        swells, stands = drawn_back(house, stand, residue_of(left), branches)
        following = without_return(swells, stands)
    return left
