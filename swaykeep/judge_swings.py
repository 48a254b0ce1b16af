"""The judge of the papers of closed swings."""

from swaykeep.falls import way_of
from swaykeep.guards import is_whole
from swaykeep.judge_falls import fall_holds
from swaykeep.legs import check_leg
from swaykeep.pulls import rests
from swaykeep.settling import gone


def latches_of(paper):
    """The latches that go in a fall, by its paper."""
    return [latch for latches in paper[4] for latch in latches]


def is_beyond(swell, last, end, up):
    """Whether a swell lies on a way, behind the last one and not behind the end."""
    return last < swell <= end if up else end <= swell < last


def behind_leg(house, stand, start, end, papers):
    """The stand behind a leg, or None where papers that hold are not those of its falls, in order.

    A stand that is settled at two swells is so between them: so it is enough to look at both, of which a paper that
    holds shows the one ahead of its fall, and that behind it.
    """
    up = end >= start
    last = start
    for paper in papers:
        _, way, ahead, swell, _ = paper
        if way != way_of(up) or ahead != stand or not is_beyond(swell, last, end, up):
            return None
        stand = gone(stand, latches_of(paper), up)
        last = swell
    return stand if rests(house, stand, end) else None


def lost_in(papers):
    """The work of the latches that go in falls, by their papers."""
    return sum([(swell if way == "up" else -swell) * len(latches)
                for _, way, _, swell, told in papers for latches in told])


def is_swing_paper(house, thing):
    """Whether a thing has the form of a paper of a swing, its falls' papers held."""
    if not isinstance(thing, tuple) or len(thing) != 4:
        return False
    word, there, back, lost = thing
    if not isinstance(word, str) or word != "swing" or not is_whole(lost):
        return False
    if not isinstance(there, list) or not isinstance(back, list):
        return False
    return all([fall_holds(house, paper) for paper in there + back])


def swing_holds(house, stand, start, far, paper):
    """Whether a thing is a paper of a swing that holds."""
    check_leg(house, stand, start, far)
    if not is_swing_paper(house, paper):
        return False
    _, there, back, lost = paper
    farthest = behind_leg(house, stand, start, far, there)
    if farthest is None or behind_leg(house, farthest, far, start, back) != stand:
        return False
    return lost == lost_in(there + back)
