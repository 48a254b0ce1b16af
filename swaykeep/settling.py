"""Climbing and sinking at a swell, their rows, waves and papers, and the stands that are settled there.

gone, waves_of, end_of and row_of refuse nothing: what they are handed is looked at before.
"""

from swaykeep.errors import TooMany
from swaykeep.guards import check_moment, check_order, check_stand, check_swell
from swaykeep.pulls import check_settled, lent_in, movable, rests, wanting

MOST_LATCHES_OF_ALL_STANDS = 10


def gone(stand, latches, up):
    """The stand that comes where latches go that way."""
    if up:
        return tuple(sorted([*stand, *latches]))
    return tuple([latch for latch in stand if latch not in latches])


def waves_of(house, stand, swell, up):
    """The rising lists of latches that go at once, again and again."""
    waves = []
    going = wanting(house, stand, swell, up)
    while going:
        waves.append(going)
        stand = gone(stand, going, up)
        going = wanting(house, stand, swell, up)
    return waves


def end_of(house, stand, swell, up):
    """The stand in which none wants to go that way any more."""
    for wave in waves_of(house, stand, swell, up):
        stand = gone(stand, wave, up)
    return tuple(stand)


def row_of(house, stand, swell, order, up):
    """The latches in the row in which they go, the first one in the order that wants each time."""
    row = []
    going = wanting(house, stand, swell, up)
    while going:
        first = [latch for latch in order if latch in going][0]
        row.append(first)
        stand = gone(stand, [first], up)
        going = wanting(house, stand, swell, up)
    return row


def looked_at_row(house, stand, swell, order, up):
    """The row of latches, of things that are looked at first."""
    check_moment(house, stand, swell)
    if order is None:
        order = tuple(range(len(house)))
    check_order(house, order)
    return row_of(house, stand, swell, order, up)


def paper_of(word, house, stand, swell, up):
    """The paper of latches that went and stayed, with the pull of each."""
    went = []
    for latch in looked_at_row(house, stand, swell, None, up):
        went.append((latch, swell + lent_in(house, stand, latch)))
        stand = gone(stand, [latch], up)
    stayed = [(latch, swell + lent_in(house, stand, latch)) for latch in movable(house, stand, up)]
    return word, tuple(went), tuple(stayed)


def climbed(house, stand, swell):
    """The stand that comes where all that want up, go up."""
    check_moment(house, stand, swell)
    return end_of(house, stand, swell, True)


def sunk(house, stand, swell):
    """The stand that comes where all that want down, go down."""
    check_moment(house, stand, swell)
    return end_of(house, stand, swell, False)


def climb_row(house, stand, swell, *, order=None):
    """The row in which latches go up, by an order of all latches."""
    return looked_at_row(house, stand, swell, order, True)


def sink_row(house, stand, swell, *, order=None):
    """The row in which latches go down, by an order of all latches."""
    return looked_at_row(house, stand, swell, order, False)


def climb_waves(house, stand, swell):
    """The waves in which latches go up."""
    check_moment(house, stand, swell)
    return waves_of(house, stand, swell, True)


def sink_waves(house, stand, swell):
    """The waves in which latches go down."""
    check_moment(house, stand, swell)
    return waves_of(house, stand, swell, False)


def up_first(house, stand, swell):
    """The settled stand that comes by climbing, then sinking."""
    return sunk(house, climbed(house, stand, swell), swell)


def down_first(house, stand, swell):
    """The settled stand that comes by sinking, then climbing."""
    return climbed(house, sunk(house, stand, swell), swell)


def climb_paper(house, stand, swell):
    """The paper of climbing."""
    return paper_of("climbed", house, stand, swell, True)


def sink_paper(house, stand, swell):
    """The paper of sinking."""
    return paper_of("sunk", house, stand, swell, False)


def least_at(house, swell):
    """The least stand that is settled at a swell."""
    return climbed(house, (), swell)


def greatest_at(house, swell):
    """The greatest stand that is settled at a swell."""
    return sunk(house, tuple(range(len(house))), swell)


def check_both(house, swell, one, other):
    """Refuse two stands that are not both settled at a swell."""
    check_stand(house, one)
    check_stand(house, other)
    check_swell(swell)
    check_settled(house, one, swell)
    check_settled(house, other, swell)


def joined(house, swell, one, other):
    """The least settled stand that has both stands."""
    check_both(house, swell, one, other)
    both = gone(one, [latch for latch in other if latch not in one], True)
    return end_of(house, both, swell, True)


def met(house, swell, one, other):
    """The greatest settled stand within both stands."""
    check_both(house, swell, one, other)
    common = tuple([latch for latch in one if latch in other])
    return end_of(house, common, swell, False)


def settled_at(house, swell):
    """All stands that are settled at a swell, sorted as tuples."""
    check_swell(swell)
    if len(house) > MOST_LATCHES_OF_ALL_STANDS:
        raise TooMany(MOST_LATCHES_OF_ALL_STANDS)
    stands = [()]
    for latch in range(len(house)):
        stands = stands + [(*stand, latch) for stand in stands]
    return sorted([stand for stand in stands if rests(house, stand, swell)])
