"""Goings of latches along histories, their work, and closed swings: their turns, losses, branches and papers.

leg_goings and turns_of_swing refuse nothing: what they are handed is looked at before.
"""

from swaykeep.errors import NotClosed, TooMany
from swaykeep.falls import fall_papers, falls_of, way_of
from swaykeep.legs import carried, check_led, check_leg
from swaykeep.settling import gone

MOST_APART = 1000


def leg_goings(house, stand, start, end):
    """The tuples (latch, way, swell) of a leg, in the order of its falls."""
    way = way_of(end >= start)
    return [(latch, way, swell) for swell, latches in falls_of(house, stand, start, end) for latch in latches]


def goings(house, stand, history):
    """The goings of a history: a list for each of its legs."""
    check_led(house, stand, history)
    told = []
    for start, end in zip(history, history[1:]):
        told.append(leg_goings(house, stand, start, end))
        stand = gone(stand, [latch for latch, _, _ in told[-1]], end >= start)
    return told


def work_of(latch_goings):
    """The work of the goings of a leg."""
    return sum([swell if way == "up" else -swell for _, way, swell in latch_goings])


def work(goings):
    """The work of goings: the swells of those up less the swells of those down, of a leg or of a history."""
    return sum([work_of(row) if isinstance(row, list) else work_of([row]) for row in goings])


def turns_of_swing(house, stand, start, far):
    """The tuples (latch, up, down) of a swing, by latches, or None where the stand does not come again."""
    there = {latch: swell for latch, _, swell in leg_goings(house, stand, start, far)}
    back = {latch: swell for latch, _, swell in leg_goings(house, carried(house, stand, start, far), far, start)}
    latches = sorted(there)
    if latches != sorted(back):
        return None
    ups, downs = (there, back) if far >= start else (back, there)
    return [(latch, ups[latch], downs[latch]) for latch in latches]


def loss_of(turns):
    """The loss of a swing of such turns."""
    return sum([up - down for _, up, down in turns])


def latch_turns(house, stand, start, far):
    """The tuples (latch, up, down) of a closed swing, by latches."""
    check_leg(house, stand, start, far)
    turns = turns_of_swing(house, stand, start, far)
    if turns is None:
        raise NotClosed(start, far)
    return turns


def loss(house, stand, start, far):
    """The loss of a closed swing."""
    return loss_of(latch_turns(house, stand, start, far))


def area(house, stand, start, far):
    """How many more are up in the leg down than in the leg up, all swells of a closed swing together."""
    turns = latch_turns(house, stand, start, far)
    return loss_of(turns) - len(turns)


def many_at(swells):
    """How many times each of swells is among them."""
    many = {}
    for swell in swells:
        many[swell] = many.get(swell, 0) + 1
    return many


def branches(house, stand, start, far):
    """The tuples (swell, rising, sinking) of a closed swing: how many are up there, leg up and leg down."""
    turns = latch_turns(house, stand, start, far)
    if abs(far - start) > MOST_APART:
        raise TooMany(MOST_APART)
    low, high = min(start, far), max(start, far)
    rising = sinking = len(carried(house, stand, start, low))
    risen = many_at([up for _, up, _ in turns])
    # on the way down a latch is up still at all swells above that at which it goes
    stays = many_at([down + 1 for _, _, down in turns])
    told = []
    for swell in range(low, high + 1):
        rising = rising + risen.get(swell, 0)
        sinking = sinking + stays.get(swell, 0)
        told.append((swell, rising, sinking))
    return told


def swing_paper(house, stand, start, far):
    """The paper of a closed swing."""
    lost = loss(house, stand, start, far)
    there = fall_papers(house, stand, start, far)
    back = fall_papers(house, carried(house, stand, start, far), far, start)
    return "swing", there, back, lost
