"""Two houses led along one history, and whether they ever show unlike many latches that are up.

A pair is a tuple (stand, other stand) of two stands that are settled at a common swell. The functions above counts
refuse nothing: what they are handed is looked at before.
"""

from swaykeep.errors import TooMany
from swaykeep.falls import way_of
from swaykeep.guards import check_stand, check_swell
from swaykeep.legs import led
from swaykeep.pulls import check_settled
from swaykeep.reach import Moves

MOST_LATCHES_TOLD_APART = 8


def comes_ahead(move, other_move, up):
    """Whether a move comes ahead of another one that way; None comes behind all."""
    if move is None or other_move is None:
        return other_move is None
    return move[0] < other_move[0] if up else move[0] > other_move[0]


class Pairs:
    """The next pairs of the pairs of two houses."""

    def __init__(self, house, other):
        self._moves = Moves(house)
        self._other_moves = Moves(other)

    def step(self, pair, up):
        """The swell of the next pair that way and this pair, or None where there is none."""
        one, two = pair
        move = self._moves.step(one, up)
        other_move = self._other_moves.step(two, up)
        if move is None and other_move is None:
            return None
        if comes_ahead(move, other_move, up):
            return move[0], (move[1], two)
        if comes_ahead(other_move, move, up):
            return other_move[0], (one, other_move[1])
        return move[0], (move[1], other_move[1])


def is_alike(pair):
    """Whether as many are up in both stands of a pair."""
    return len(pair[0]) == len(pair[1])


def searched(pairs, first, swell):
    """A history of the fewest legs behind which unlike many are up, or None; and all pairs that were met."""
    met = {first: True}
    if not is_alike(first):
        return [swell], met
    seen = {}
    # the pairs at which the last legs stand, the way that leads on from there, and the history ahead
    begun = [(first, True, [swell]), (first, False, [swell])]
    while begun:
        following = []
        for pair, up, ahead in begun:
            found = pairs.step(pair, up)
            while found is not None and (up, found[1]) not in seen:
                seen[(up, found[1])] = True
                met[found[1]] = True
                history = ahead + [found[0]]
                if not is_alike(found[1]):
                    return history, met
                following.append((found[1], not up, history))
                found = pairs.step(found[1], up)
        begun = following
    return None, met


def layer_behind(pairs, begun):
    """All (way, pair) to which one leg leads on from pairs, each the way that stands with it."""
    layer = {}
    for up, pair in begun:
        found = pairs.step(pair, up)
        while found is not None and (up, found[1]) not in layer:
            layer[(up, found[1])] = True
            found = pairs.step(found[1], up)
    return list(layer)


def layers_of(pairs, first, many):
    """So many layers, from a first pair on: sorted lists of tuples (way, stand, other stand)."""
    layers = []
    layer = [(False, first), (True, first)]
    for place in range(many):
        begun = layer if place == 0 else [(not up, pair) for up, pair in layer]
        layer = layer_behind(pairs, begun)
        layers.append(sorted([(way_of(up), one, two) for up, (one, two) in layer]))
    return layers


def counts(house, stand, history):
    """How many are up at each swell of a history."""
    return [len(there) for there in led(house, stand, history)]


def next_pair(house, stand, other, there, *, up=True):
    """The tuple (swell, stand, other stand) of the next pair that way, or None where neither has a next move."""
    check_stand(house, stand)
    check_stand(other, there)
    found = Pairs(house, other).step((stand, there), up)
    return None if found is None else (found[0], found[1][0], found[1][1])


def told_apart(house, stand, other, there, swell):
    """The paper ("apart", history, layers) of two stands that some history parts, else ("alike", table)."""
    if len(house) > MOST_LATCHES_TOLD_APART or len(other) > MOST_LATCHES_TOLD_APART:
        raise TooMany(MOST_LATCHES_TOLD_APART)
    check_stand(house, stand)
    check_stand(other, there)
    check_swell(swell)
    check_settled(house, stand, swell)
    check_settled(other, there, swell)
    pairs = Pairs(house, other)
    history, met = searched(pairs, (stand, there), swell)
    if history is None:
        return "alike", sorted(met)
    return "apart", history, layers_of(pairs, (stand, there), max(0, len(history) - 2))
