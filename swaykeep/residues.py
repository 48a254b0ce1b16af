"""The turns and the residue of a history: what is left of it where inner swings are taken out.

The functions above turns refuse nothing: what they are handed is looked at before.
"""

from swaykeep.guards import check_swells


def lies_between(swell, one, other):
    """Whether a swell lies between two others, like neither of them."""
    return one < swell < other or other < swell < one


def is_inner(left, place):
    """Whether the swing of this place and the next one, of turns, is an inner one."""
    if place < 1 or place + 2 >= len(left):
        return False
    low = min(left[place - 1], left[place + 2])
    high = max(left[place - 1], left[place + 2])
    return low <= left[place] <= high and low <= left[place + 1] <= high


def turn_to(left, swell):
    """Lead turns on to a swell: the last one of them goes where it lies on the way."""
    if left and left[-1] == swell:
        return
    if len(left) > 1 and lies_between(left[-1], left[-2], swell):
        left.pop()
    left.append(swell)


def take_out(left):
    """Take inner swings out of turns in which each one is behind the third last; told are their places.

    Where turns without an inner swing are led on, no other ones come, and these are the first ones, each time.
    """
    places = []
    while is_inner(left, len(left) - 3):
        places.append(len(left) - 3)
        del left[-3:-1]
    return places


def unseen(history, ahead):
    """The swell ahead of all that is not told: a list of one swell, or of none."""
    if len(history) == 0 or ahead is None:
        return []
    return [min(history) - 1] if ahead == "below" else [max(history) + 1]


def turns_of(history):
    """The turns of a history."""
    left = []
    for swell in history:
        turn_to(left, swell)
    return left


def residue_of(history):
    """The residue of a history."""
    left = []
    for swell in history:
        turn_to(left, swell)
        take_out(left)
    return left


def turns(history, *, ahead=None):
    """The turns of a history, where it is told to come from "below" or "above" all behind one swell more."""
    check_swells(history)
    first = unseen(history, ahead)
    return turns_of([*first, *history])[len(first):]


def residue(history, *, ahead=None):
    """What is left of the turns of a history when all inner swings are taken out."""
    check_swells(history)
    first = unseen(history, ahead)
    return residue_of([*first, *history])[len(first):]


def waist(history):
    """The two swells of the first widest leg of the residue, or None where it has no leg."""
    left = residue(history)
    widest = None
    for one, other in zip(left, left[1:]):
        if widest is None or abs(other - one) > abs(widest[1] - widest[0]):
            widest = (one, other)
    return widest


def taking_out(history, *, ahead=None):
    """The places of inner swings that are taken out one behind the other, the first one each time."""
    check_swells(history)
    first = unseen(history, ahead)
    left = []
    places = []
    for swell in turns_of([*first, *history]):
        left.append(swell)
        places.extend([place - len(first) for place in take_out(left)])
    return places


def are_alike(one, other, *, ahead=None):
    """Whether two histories have the same residue."""
    return residue(one, ahead=ahead) == residue(other, ahead=ahead)


def common_many(one, other):
    """How many swells two lists have in common at their beginning."""
    many = 0
    while many < min(len(one), len(other)) and one[many] == other[many]:
        many = many + 1
    return many


def parting(one, other):
    """A latch (u, d) that is up behind one of two histories from below all alone, or None where there is none."""
    one_left = residue(one, ahead="below")
    other_left = residue(other, ahead="below")
    if one_left == other_left:
        return None
    many = common_many(one_left, other_left)
    following = one_left[many:many + 1] + other_left[many:many + 1]
    if many == 0:
        return max(following), min(one_left + other_left) - 1
    # the legs up are those at even places, as the first one comes from below
    if many % 2 == 0:
        return max(following), one_left[many - 1]
    return one_left[many - 1], min(following)
