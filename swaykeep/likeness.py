"""Whether a house is like a plain one, in which nobody lends, by how many are up behind each history."""

from swaykeep.apart import Pairs, searched
from swaykeep.comings import fewest_to
from swaykeep.plain import plain_house
from swaykeep.rises import corners, looked_through, rise_by, small_ends


def manies_by(pieces):
    """The rising tuples (up-number, down-number, many) of pairs of which rises tell more or fewer than none.

    A second difference of rises is none but where the high swell is one at which a leg up moves something.
    """
    manies = {}
    for piece_ahead, piece in zip(pieces, pieces[1:]):
        up = piece[0]
        for swell, many in piece[2]:
            manies[(up, swell)] = manies.get((up, swell), 0) + many
        for swell, many in piece_ahead[2]:
            manies[(up, swell)] = manies.get((up, swell), 0) - many
    return sorted([(up, down, many) for (up, down), many in manies.items() if many != 0])


def four_by(pieces, up, down):
    """The four rises of which the second difference tells how many a pair has."""
    return tuple([rise_by(pieces, low, high) for low, high in corners(up, down)])


def below_paper(pieces):
    """The paper of the first pair that has fewer than none, or None where there is no such pair."""
    for up, down, many in manies_by(pieces):
        if many < 0:
            return "below", up, down, four_by(pieces, up, down)
    return None


def unlike_paper(house, low, high, stand):
    """The paper of two swings, the one of a stand, the other one the first, that rise unlike."""
    history = fewest_to(house, stand)
    first = history[0]
    if history[-1] != low:
        history.append(low)
    return "unlike", low, high, history + [high, low], [first, high, low, high, low]


def like(house):
    """The paper ("plain", heap, table), ("unlike", low, high, history, other) or ("below", up, down, four)."""
    pieces, unlike = looked_through(house, small_ends(house))
    if unlike is not None:
        low, high, stand = unlike
        return unlike_paper(house, low, high, stand)
    below = below_paper(pieces)
    if below is not None:
        return below
    heap = manies_by(pieces)
    _, met = searched(Pairs(house, plain_house(heap)), ((), ()), pieces[0][0])
    return "plain", heap, sorted(met)
