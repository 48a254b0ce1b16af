"""The judges of what is told of residues: the papers of taking out, and the latch that parts two histories."""

from swaykeep.guards import are_whole, check_swells
from swaykeep.houses import is_pair
from swaykeep.residues import is_inner, turns_of, unseen


def residue_shows(history, places, told, *, ahead=None):
    """Whether a list of places shows that a list is the residue of a history."""
    check_swells(history)
    if not are_whole(places) or not are_whole(told):
        return False
    first = unseen(history, ahead)
    left = turns_of([*first, *history])
    for place in places:
        at = place + len(first)
        if not is_inner(left, at):
            return False
        del left[at:at + 2]
    return left[len(first):] == told and not any([is_inner(left, at) for at in range(len(left))])


def is_up_behind(latch, history):
    """Whether a latch that nobody helps is up behind a history, being down ahead of it."""
    up, down = latch
    stands_up = False
    for swell in history:
        if swell >= up:
            stands_up = True
        elif swell <= down:
            stands_up = False
    return stands_up


def parting_shows(one, other, latch):
    """Whether a latch (u, d) is up behind just one of two histories, from below all."""
    check_swells(one)
    check_swells(other)
    return is_pair(latch) and is_up_behind(latch, one) != is_up_behind(latch, other)
